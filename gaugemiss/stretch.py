"""Stretches of levels, and finite sets of levels."""

from gaugemiss.errors import Apart, BadStretch, NoLevel


class Stretch:
    """All integers from the low end to the high end, both included."""

    def __init__(self, low, high):
        if low > high:
            raise BadStretch(low, high)
        self.low = low
        self.high = high

    @classmethod
    def around(cls, level, radius):
        """The stretch of the levels at most radius away from a level."""
        return cls(level - radius, level + radius)

    @property
    def width(self):
        """The distance between both ends."""
        return self.high - self.low

    @property
    def middle(self):
        """The level halfway between both ends, rounded down."""
        return (self.low + self.high) // 2

    def grown(self, below, above):
        """The stretch whose low end is moved down by below and whose high end is moved up by above."""
        # A wide stretch could shrink by the wrong order of these two and still have its ends in order.
        change = Stretch(-below, above)
        return Stretch(self.low + change.low, self.high + change.high)

    def nearest(self, level):
        """The level of the stretch with the least distance from a level."""
        return max(self.low, min(self.high, level))

    def farthest(self, level):
        """The greatest distance between a level and a level of the stretch."""
        return max(level - self.low, self.high - level)

    def __contains__(self, x):
        return self.low <= x <= self.high

    def __eq__(self, other):
        return isinstance(other, Stretch) and self.low == other.low and self.high == other.high

    def __add__(self, other):
        return Stretch(self.low + other, self.high + other)

    def __sub__(self, other):
        return Stretch(self.low - other, self.high - other)

    def __neg__(self):
        return Stretch(-self.high, -self.low)

    def __and__(self, other):
        low = max(self.low, other.low)
        high = min(self.high, other.high)
        if low > high:
            raise Apart((self.low, self.high), (other.low, other.high))
        return Stretch(low, high)

    def __or__(self, other):
        return Stretch(min(self.low, other.low), max(self.high, other.high))

    def __repr__(self):
        return f"Stretch({self.low}, {self.high})"

    def __str__(self):
        return f"{self.low}..{self.high}"


def _joined(stretches):
    """The levels of all stretches as new stretches in ascending order, as few as possible."""
    ends = []
    for low, high in sorted([(each.low, each.high) for each in stretches]):
        # Two stretches that only touch are one piece, because no integer lies between them.
        if ends and low <= ends[-1][1] + 1:
            ends[-1] = (ends[-1][0], max(ends[-1][1], high))
        else:
            ends.append((low, high))
    return [Stretch(low, high) for low, high in ends]


class Levels:
    """A finite set of levels, kept as ascending pieces that neither overlap nor touch."""

    def __init__(self, *stretches):
        self._pieces = _joined(stretches)

    @staticmethod
    def none():
        """The empty set."""
        return Levels()

    @classmethod
    def of(cls, stretches):
        """The set of the levels of a list of stretches."""
        return cls(*stretches)

    @property
    def lowest(self):
        """The least level."""
        if not self._pieces:
            raise NoLevel()
        return self._pieces[0].low

    @property
    def highest(self):
        """The greatest level."""
        if not self._pieces:
            raise NoLevel()
        return self._pieces[-1].high

    @property
    def size(self):
        """The number of levels."""
        return sum([piece.high - piece.low + 1 for piece in self._pieces])

    def ends(self):
        """The pairs of ends of the pieces in ascending order."""
        return [(piece.low, piece.high) for piece in self._pieces]

    def hull(self):
        """The stretch from the least to the greatest level."""
        return Stretch(self.lowest, self.highest)

    def nearest(self, level):
        """The level of the set with the least distance from a level, the lower one of two."""
        if not self._pieces:
            raise NoLevel()
        near = [piece.nearest(level) for piece in self._pieces]
        return min([(abs(each - level), each) for each in near])[1]

    def grown(self, below, above):
        """The set of all sums of a level and an integer from minus below to above."""
        # The empty set has no piece that would refuse the wrong order of these two.
        change = Stretch(-below, above)
        return Levels.of([Stretch(piece.low + change.low, piece.high + change.high) for piece in self._pieces])

    def __contains__(self, x):
        return any([piece.low <= x <= piece.high for piece in self._pieces])

    def __iter__(self):
        return iter(self._pieces)

    def __getitem__(self, at):
        return self._pieces[at]

    def __len__(self):
        return len(self._pieces)

    def __bool__(self):
        return bool(self._pieces)

    def __eq__(self, other):
        return isinstance(other, Levels) and self._pieces == other._pieces

    def __and__(self, other):
        common = []
        at = past = 0
        while at < len(self._pieces) and past < len(other._pieces):
            one = self._pieces[at]
            two = other._pieces[past]
            if one.low <= two.high and two.low <= one.high:
                common.append(one & two)
            # The piece that ends first has nothing in common with the pieces behind the other one.
            if one.high < two.high:
                at += 1
            else:
                past += 1
        return Levels(*common)

    def __or__(self, other):
        both = self._pieces + other._pieces
        return Levels(*both)

    def __sub__(self, other):
        if not self._pieces:
            return Levels()
        lows = [self._pieces[0].low] + [piece.high + 1 for piece in other._pieces]
        highs = [piece.low - 1 for piece in other._pieces] + [self._pieces[-1].high]
        gaps = [Stretch(low, high) for low, high in zip(lows, highs) if low <= high]
        return self & Levels(*gaps)

    def __add__(self, other):
        moved = [Stretch(piece.low + other, piece.high + other) for piece in self._pieces]
        return Levels(*moved)

    def __repr__(self):
        inside = [repr(piece) for piece in self._pieces]
        return f"Levels({', '.join(inside)})"

    def __str__(self):
        if not self._pieces:
            return "none"
        return ", ".join([str(piece) for piece in self._pieces])
