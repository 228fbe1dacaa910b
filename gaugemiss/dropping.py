"""A rule that drops gauges for good, and what it can be made to drop by gauges that lie."""

from gaugemiss.errors import BadLimit, MissingReading, NoCase, NoLevel, UnknownGauge
from gaugemiss.rules import Leaf, Rank
from gaugemiss.worst import Miss, combined, slack_towards


def _refuse_limit(limit):
    """Raise BadLimit if a limit is negative."""
    if limit < 0:
        raise BadLimit(limit)


def _without(names, name):
    """The names but one."""
    return [other for other in names if other != name]


def _farthest(kept, readings):
    """The answer of the kept gauges, the greatest distance of a reading from it, and the first gauge that has it."""
    answer = sorted([readings[name] for name in kept])[(len(kept) - 1) // 2]
    distances = [abs(readings[name] - answer) for name in kept]
    most = max(distances)
    return answer, most, kept[distances.index(most)]


class Keeper:
    """Answers with the middle of the gauges that it still keeps, and drops the farthest one if it is too far away."""

    def __init__(self, rack, limit):
        _refuse_limit(limit)
        self._limit = limit
        self._kept = rack.names()
        self._dropped = []

    @property
    def limit(self):
        """The greatest distance from the answer at which a gauge is still kept."""
        return self._limit

    @limit.setter
    def limit(self, limit):
        _refuse_limit(limit)
        self._limit = limit

    def change(self, limit):
        """Assign the limit."""
        self.limit = limit

    def take(self, readings):
        """Do one tick and return its answer."""
        for name in self._kept:
            if name not in readings:
                raise MissingReading(name)
        if not self._kept:
            raise NoLevel()
        answer, most, farthest = _farthest(self._kept, readings)
        if most > self._limit:
            self._kept = _without(self._kept, farthest)
            self._dropped.append(farthest)
        return answer

    def kept(self):
        """The kept names in rack order."""
        return list(self._kept)

    def dropped(self):
        """The dropped names in the order in which they were dropped."""
        return list(self._dropped)


def _readings_near(rack, names, lot, level):
    """The readings of these gauges that are as near to 0 as they can be at a level."""
    readings = {}
    for name in names:
        least, greatest = rack.gauge(name).extremes(level)
        readings[name] = 0 if name in lot else max(least, min(greatest, 0))
    return readings


def _pushed(rack, names, lot, name, out, sign):
    """The readings near 0 at a level so far out on a side, but an honest gauge shows its farthest honest reading."""
    readings = _readings_near(rack, names, lot, sign * out)
    least, greatest = rack.gauge(name).extremes(sign * out)
    readings[name] = greatest if sign > 0 else least
    return readings


def _counts(rack, kept, lot, name, out, sign):
    """Whether the answer is 0 and the gauge is the farthest one, on this side, if it is pushed so far out."""
    readings = _pushed(rack, kept, lot, name, out, sign)
    answer, most, farthest = _farthest(kept, readings)
    return answer == 0 and farthest == name and most > 0 and most == sign * readings[name]


def _outermost(rack, kept, lot, name, sign):
    """How far out on a side a gauge still counts if it is pushed, and whether it counts everywhere behind, too.

    The first one is None if it never counts. The names in kept stand in rack order.
    """
    edges = [0]
    for other in _without(kept, name):
        if other not in lot:
            # On the way out it is only behind these levels that the other gauge ceases to show 0 or begins to.
            told = rack.gauge(other).told(0)
            side = told if sign > 0 else -told
            edges = [*edges, side.high, side.low - 1]
    beyond = max(edges) + 1
    if _counts(rack, kept, lot, name, beyond, sign):
        return beyond, True
    for out in sorted(edges, reverse=True):
        if _counts(rack, kept, lot, name, out, sign):
            return out, False
    return None, False


def _pushes(rack, kept, lot, name):
    """The rows (out, sign, endless) of the sides on which a gauge can be the one that is dropped."""
    ordered = [other for other in rack.names() if other in kept]
    rows = []
    for sign in (1, -1):
        out, endless = _outermost(rack, ordered, lot, name, sign)
        if out is not None:
            rows.append((out, sign, endless))
    return rows


def honest_reach(rack, kept, lot, name):
    """The greatest distance from the answer at which a gauge can be the one that is dropped.

    It is 0 if the gauge is never dropped, and None if there is no greatest distance.
    """
    if name not in kept:
        raise UnknownGauge(name)
    if name in lot and len(kept) > 1:
        return None
    rows = _pushes(rack, kept, lot, name)
    if any([endless for _, _, endless in rows]):
        return None
    return max([abs(_pushed(rack, [name], lot, name, out, sign)[name]) for out, sign, _ in rows], default=0)


def drop_case(rack, kept, lot, name, limit):
    """A case (level, readings) that drops a gauge."""
    if name not in kept:
        raise UnknownGauge(name)
    if name in lot and len(kept) > 1:
        readings = _readings_near(rack, rack.names(), lot, 0)
        readings[name] = limit + 1
        return 0, readings
    for out, sign, endless in _pushes(rack, kept, lot, name):
        # A gauge that counts everywhere behind is too far away once it is pushed by the limit, too.
        far = out + limit if endless else out
        readings = _pushed(rack, rack.names(), lot, name, far, sign)
        if abs(readings[name]) > limit:
            return sign * far, readings
    raise NoCase([name])


def drop_table(rack, limit, lot):
    """The rows (kept, droppable) of all lists that can be kept, in order of discovery."""
    found = [rack.names()]
    seen = set()
    rows = []
    while len(rows) < len(found):
        kept = found[len(rows)]
        droppable = [name for name in kept if _can_drop(rack, kept, lot, name, limit)]
        rows.append((kept, droppable))
        for name in droppable:
            rest = _without(kept, name)
            # Each drop makes the list shorter, so the list of all names is not found again.
            if tuple(rest) not in seen:
                seen.add(tuple(rest))
                found.append(rest)
    return rows


def _can_drop(rack, kept, lot, name, limit):
    """Whether some case drops a gauge."""
    reach = honest_reach(rack, kept, lot, name)
    return reach is None or reach > limit


def _ways_down(rack, limit, lot):
    """For each list that can be kept, the pairs (kept, name) of drops that lead to it from all names."""
    ways = {tuple(rack.names()): []}
    for kept, droppable in drop_table(rack, limit, lot):
        for name in droppable:
            rest = tuple(_without(kept, name))
            if rest not in ways:
                ways[rest] = [*ways[tuple(kept)], (kept, name)]
    return ways


def drop_path(rack, limit, lot, kept):
    """A row of cases after which a new Keeper keeps just these gauges. Each case drops one gauge."""
    ordered = [name for name in rack.names() if name in kept]
    ways = _ways_down(rack, limit, lot)
    if tuple(ordered) not in ways or any([name not in rack for name in kept]):
        raise NoCase(ordered)
    return [drop_case(rack, before, lot, name, limit) for before, name in ways[tuple(ordered)]]


def safe_limit(rack, lot):
    """The least limit with which no gauge outside of the lot is ever dropped, or None if there is no such limit."""
    honest = [name for name in rack.names() if name not in lot]
    choices = [[]]
    for name in lot:
        choices = choices + [[*choice, name] for choice in choices]
    reaches = [honest_reach(rack, honest + choice, lot, name) for choice in choices for name in honest]
    return None if None in reaches else max(reaches, default=0)


def _middle_miss(rack, kept, lot, side):
    """The greatest miss of the middle of the kept gauges on a side, if just the gauges of the lot may lie."""
    leaves = [Leaf(name) for name in kept]
    bounds = [None if name in lot else slack_towards(rack.gauge(name), side) for name in kept]
    return combined(Rank.median(*leaves), bounds, side)


def keeper_miss(rack, limit, lot):
    """The greatest misses of a Keeper above and below the true level, in any tick of any row of ticks."""
    if len(rack) == 0:
        return Miss(None, None)
    rows = drop_table(rack, limit, lot)
    sides = []
    for side in ("above", "below"):
        misses = [_middle_miss(rack, kept, lot, side) for kept, _ in rows]
        sides.append(None if None in misses else max(misses))
    return Miss(sides[0], sides[1])
