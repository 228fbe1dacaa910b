"""Rules that give the same answers, and which of several rules gives certain answers."""

from gaugemiss.errors import NoRule, NotRanked


def _refuse_trims(rules):
    """Raise NotRanked if there is a Trim in one of the rules."""
    if not all([rule.ranked for rule in rules]):
        raise NotRanked()


def _bit_readings(rules):
    """All readings of 0 and 1 for the gauges of the rules, as if the alphabetically first one were the lowest bit."""
    names = sorted({name for rule in rules for name in rule.names()})
    rows = [{}]
    for each in names:
        rows = [{**row, each: bit} for bit in (0, 1) for row in rows]
    return rows


def _first_difference(rules, rows):
    """The first readings of the rows to which not all rules give the same answer, or None."""
    for row in rows:
        if len({rule.answer(row) for rule in rules}) > 1:
            return row
    return None


def differ(rule, other):
    """The first readings of 0 and 1 to which two rules give different answers, or None."""
    _refuse_trims([rule, other])
    return _first_difference([rule, other], _bit_readings([rule, other]))


def alike(rule, other):
    """Whether two rules give the same answers to all readings."""
    return differ(rule, other) is None


class Finder:
    """Finds out which of several rules gives certain answers."""

    def __init__(self, *rules):
        _refuse_trims(rules)
        self._rules = rules
        self._left = list(range(len(rules)))

    @classmethod
    def of(cls, rules):
        """The finder of a list of rules."""
        return cls(*rules)

    def left(self):
        """The positions of the rules that are still possible."""
        return list(self._left)

    def tell(self, readings, answer):
        """Keep those of the rules that give this answer to the readings."""
        kept = [at for at in self._left if self._rules[at].answer(readings) == answer]
        if not kept:
            raise NoRule(answer)
        self._left = kept

    def question(self):
        """The first readings of 0 and 1 to which not all rules that are left give the same answer, or None."""
        return _first_difference([self._rules[at] for at in self._left], _bit_readings(self._rules))
