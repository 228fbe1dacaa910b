"""What several stretches have in common, and how many of them must be wrong."""

from gaugemiss.errors import BadLiars, BadNeed, NoLevel
from gaugemiss.stretch import Levels, Stretch


def depth(stretches, level):
    """The number of entries that contain a level."""
    return len([each for each in stretches if level in each])


def _depth_rows(stretches):
    """Rows (low, high, depth): the levels from the least to the greatest one, cut where the depth can change."""
    cuts = sorted({cut for each in stretches for cut in (each.low, each.high + 1)})
    return [(low, after - 1, depth(stretches, low)) for low, after in zip(cuts, cuts[1:])]


def shared(stretches, need):
    """The levels whose depth is at least need."""
    if need < 1:
        raise BadNeed(need)
    return Levels.of([Stretch(low, high) for low, high, many in _depth_rows(stretches) if many >= need])


def most_shared(stretches):
    """The greatest depth and the levels that have it."""
    if not stretches:
        raise NoLevel()
    most = max([row[2] for row in _depth_rows(stretches)])
    return most, shared(stretches, most)


def least_liars(stretches):
    """The least number of entries that do not contain the true level."""
    if not stretches:
        return 0
    most, _ = most_shared(stretches)
    return len(stretches) - most


def apart_lots(stretches):
    """The positions in as few lots as possible, so that no two stretches of a lot have a common level."""
    lots = []
    for low, at in sorted([(each.low, at) for at, each in enumerate(stretches)]):
        free = [lot for lot in lots if stretches[lot[-1]].high < low]
        if free:
            free[0].append(at)
        else:
            lots.append([at])
    return lots


def possible(stretches, liars):
    """The levels that are outside of at most so many entries."""
    if liars < 0 or liars >= len(stretches):
        raise BadLiars(liars)
    return shared(stretches, len(stretches) - liars)


def _some_possible(stretches, liars):
    """The possible levels, of which there must be one."""
    levels = possible(stretches, liars)
    if not levels:
        raise NoLevel()
    return levels


def sure_liars(stretches, liars):
    """The positions of the entries that contain no possible level."""
    levels = _some_possible(stretches, liars)
    return [at for at, each in enumerate(stretches) if not Levels(each) & levels]


def sure_honest(stretches, liars):
    """The positions of the entries that contain all possible levels."""
    hull = _some_possible(stretches, liars).hull()
    return [at for at, each in enumerate(stretches) if hull.low in each and hull.high in each]


def clashes(stretches):
    """The pairs of positions of stretches that have no common level."""
    places = range(len(stretches))
    return [(i, j) for i in places for j in places if i < j and _are_apart(stretches[i], stretches[j])]


def _are_apart(one, other):
    """Whether two stretches have no common level."""
    return one.high < other.low or other.high < one.low
