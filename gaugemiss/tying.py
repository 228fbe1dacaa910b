"""Two levels that a fact ties: the first level minus the second one lies in a gap."""

from gaugemiss.errors import BadLiars, NoLevel, NotPossible
from gaugemiss.sharing import clashes, possible
from gaugemiss.stretch import Levels, Stretch


def tied(first, second, gap):
    """The pair of those first and those second levels that a fact allows."""
    return first & second.grown(-gap.low, gap.high), second & first.grown(gap.high, -gap.low)


def partner(level, second, gap):
    """The lowest of the second levels that satisfies a fact with a first level."""
    near = second & Levels(Stretch(level - gap.high, level - gap.low))
    if not near:
        raise NotPossible(level)
    return near.lowest


def shared_budget(first, second, gap, liars):
    """The first and the second levels of the pairs that are outside of at most so many entries of both lists."""
    if liars < 0 or liars >= len(first) or liars >= len(second):
        raise BadLiars(liars)
    firsts = seconds = Levels()
    for lying in range(liars + 1):
        # Each way to divide the liars leaves pairs of its own, so the levels are tied before they are put together.
        some, others = tied(possible(first, lying), possible(second, liars - lying), gap)
        firsts = firsts | some
        seconds = seconds | others
    return firsts, seconds


def joint_clashes(first, second, gap):
    """The pairs of entries of two lists that cannot be honest together."""
    inside = [(("first", i), ("first", j)) for i, j in clashes(first)]
    inside += [(("second", i), ("second", j)) for i, j in clashes(second)]
    return inside + [(("first", i), ("second", j)) for i, one in enumerate(first) for j, other in enumerate(second)
                     if _never_tied(one, other, gap)]


def _never_tied(one, other, gap):
    """Whether no level of one stretch and no level of another one satisfy a fact."""
    return one.high - other.low < gap.low or one.low - other.high > gap.high


def agreed(first, second, gap):
    """The lowest pair of levels that lies in all entries of two lists and satisfies a fact."""
    if not first or not second:
        raise NoLevel()
    seconds = possible(second, 0)
    firsts, _ = tied(possible(first, 0), seconds, gap)
    x = firsts.lowest
    return x, partner(x, seconds, gap)
