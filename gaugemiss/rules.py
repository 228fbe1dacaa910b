"""Rules that turn the readings of gauges into one answer."""

from gaugemiss.errors import BadRule, DuplicateGauge, MissingReading


class Rule:
    """What the four kinds of rules share. Only these kinds are created.

    The label is the first word of the written form; behind it stand the numbers and then the parts. Each kind that
    combines parts has a method counted(answers): those of its parts' answers of which it gives the mean. They may be
    anything that has an order, so that bounds can be combined like answers.
    """

    def __init__(self, label, numbers, parts):
        self.label = label
        self.numbers = tuple(numbers)
        self.parts = parts
        self.ranked = all([part.ranked for part in parts])
        names = self.names()
        for at, name in enumerate(names):
            if name in names[:at]:
                raise DuplicateGauge(name)

    def names(self):
        """The names of the leaves from left to right."""
        return [name for part in self.parts for name in part.names()]

    def answer(self, readings):
        """The answer to a dict of readings."""
        counted = self.counted([part.answer(readings) for part in self.parts])
        return sum(counted) // len(counted)

    def __eq__(self, other):
        return isinstance(other, Rule) and str(self) == str(other)

    def __str__(self):
        numbers = [f" {number}" for number in self.numbers]
        parts = [str(part) for part in self.parts]
        return f"{self.label}{''.join(numbers)} ({', '.join(parts)})"


class Leaf(Rule):
    """The rule that answers with the reading of one gauge."""

    def __init__(self, name):
        Rule.__init__(self, name, (), ())

    def names(self):
        """The name of the gauge."""
        return [self.label]

    def answer(self, readings):
        """The reading of the gauge."""
        if self.label not in readings:
            raise MissingReading(self.label)
        return readings[self.label]

    def __str__(self):
        return str(self.label)


class Rank(Rule):
    """The rule that answers with the answer at one place, in ascending order."""

    def __init__(self, place, *parts):
        if not 0 <= place < len(parts):
            raise BadRule("rank")
        Rule.__init__(self, "rank", (place,), parts)

    @classmethod
    def of(cls, place, parts):
        """The rule of a list of parts."""
        return cls(place, *parts)

    @classmethod
    def least(cls, *parts):
        """The rule that answers with the least answer."""
        return cls(0, *parts)

    @classmethod
    def greatest(cls, *parts):
        """The rule that answers with the greatest answer."""
        return cls(len(parts) - 1, *parts)

    @classmethod
    def median(cls, *parts):
        """The rule that answers with the middle answer, the lower one of two."""
        return cls((len(parts) - 1) // 2, *parts)

    def counted(self, answers):
        """The answer at the place."""
        return [sorted(answers)[self.numbers[0]]]


class Trim(Rule):
    """The rule that leaves out as many of the lowest as of the highest answers and gives the mean of the others."""

    def __init__(self, cut, *parts):
        if cut < 0 or 2 * cut >= len(parts):
            raise BadRule("trim")
        Rule.__init__(self, "trim", (cut,), parts)
        self.ranked = False

    @classmethod
    def of(cls, cut, parts):
        """The rule of a list of parts."""
        return cls(cut, *parts)

    def counted(self, answers):
        """The answers that are not left out."""
        cut = self.numbers[0]
        return sorted(answers)[cut:len(answers) - cut]


class Weigh(Rule):
    """The rule that answers with the least answer up to which the answers have half of the weight."""

    def __init__(self, weights, *parts):
        if len(weights) != len(parts) or any([weight < 0 for weight in weights]) or sum(weights) == 0:
            raise BadRule("weigh")
        Rule.__init__(self, "weigh", weights, parts)

    @classmethod
    def of(cls, weights, parts):
        """The rule of a list of parts."""
        return cls(weights, *parts)

    def counted(self, answers):
        """The least answer up to which the answers have half of the weight."""
        total = sum(self.numbers)
        return [min([answer for answer in answers if 2 * self._weight_up_to(answer, answers) >= total])]

    def _weight_up_to(self, most, answers):
        """The sum of the weights of the parts that answer at most so much."""
        return sum([weight for answer, weight in zip(answers, self.numbers) if answer <= most])
