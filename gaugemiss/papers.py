"""Papers that show a bound of the worst miss, and the miss that no rule can stay below."""

from gaugemiss.errors import BadPaper, NoBound, SharedFault
from gaugemiss.rules import Leaf
from gaugemiss.worst import combined, refuse_liars, refuse_unknown, slack_towards


def _refuse_for_paper(rack, rule, liars):
    """Raise the errors that both functions for papers share."""
    refuse_unknown(rack, rule)
    for fault in rack.faults():
        if len(fault) > 1:
            raise SharedFault(fault[0])
    refuse_liars(rack, liars)


def _in_order(rule):
    """The rule and each part within it, each directly after its own parts."""
    return [each for part in rule.parts for each in _in_order(part)] + [rule]


def _ways(rows, liars):
    """All pairs (number, bounds): one bound of each row for so many liars, at most liars together.

    Behind as many liars as a part has leaves its bounds are all None. So the same bounds come up again and again;
    as keys of a dict they are kept once, and there are far fewer of them than sums of numbers.
    """
    ways = {(0, ()): True}
    for row in rows:
        ways = {(used + more, (*bounds, row[more])): True
                for used, bounds in ways for more in range(liars + 1 - used)}
    return list(ways)


def _greatest(bounds):
    """The greatest bound; None is greater than every number."""
    return None if None in bounds else max(bounds)


def _due(rack, rule, rows, liars, side):
    """The bounds that are due in the row of a rule, given the bounds of its parts."""
    if isinstance(rule, Leaf):
        return (slack_towards(rack.gauge(rule.label), side),) + (None,) * liars
    found = [[] for _ in range(liars + 1)]
    for used, bounds in _ways(rows, liars):
        found[used].append(combined(rule, bounds, side))
    return tuple([_greatest(each) for each in found])


def make_paper(rack, rule, liars, *, side="above"):
    """The paper whose every bound is just what is due."""
    _refuse_for_paper(rack, rule, liars)
    paper = []
    waiting = []
    for part in _in_order(rule):
        # The rows of the parts are the last ones that wait for the rule which combines them.
        start = len(waiting) - len(part.parts)
        bounds = _due(rack, part, waiting[start:], liars, side)
        waiting = waiting[:start] + [bounds]
        paper.append((part.label, bounds))
    return paper


def _is_good(bounds, due):
    """Whether each bound of a row is good."""
    if len(bounds) != len(due):
        return False
    return all([bound is None or (least is not None and least <= bound) for bound, least in zip(bounds, due)])


def check_paper(rack, rule, liars, paper, *, side="above"):
    """The last bound of the last row of a good paper."""
    _refuse_for_paper(rack, rule, liars)
    parts = _in_order(rule)
    waiting = []
    for at, part in enumerate(parts):
        if at == len(paper):
            raise BadPaper(at)
        label, bounds = paper[at]
        start = len(waiting) - len(part.parts)
        if label != part.label or not _is_good(bounds, _due(rack, part, waiting[start:], liars, side)):
            raise BadPaper(at)
        waiting = waiting[:start] + [bounds]
    if len(paper) > len(parts):
        raise BadPaper(len(parts))
    return waiting[0][-1]


def _faults_by_width(rack):
    """The pairs (width, fault) in ascending order of the widths."""
    return sorted([(min([rack.gauge(name).width for name in fault]), fault) for fault in rack.faults()])


def least_miss(rack, liars):
    """A distance that no rule whatever can stay below, or None if the miss of every rule is without a bound."""
    refuse_liars(rack, liars)
    rows = _faults_by_width(rack)
    return None if 2 * liars >= len(rows) else (rows[2 * liars][0] + 1) // 2


class Twins:
    """Readings that fit two worlds, each with a true level and a lot of gauges that lie."""

    def __init__(self, readings, low_level, low_lot, high_level, high_lot):
        self.readings = dict(readings)
        self.low_level = low_level
        self.low_lot = list(low_lot)
        self.high_level = high_level
        self.high_lot = list(high_lot)

    @property
    def gap(self):
        """The distance between the two true levels."""
        return self.high_level - self.low_level


def twin_worlds(rack, liars):
    """Two worlds with the same readings whose levels are as far apart as a fault that lies in neither is wide."""
    refuse_liars(rack, liars)
    rows = _faults_by_width(rack)
    if 2 * liars >= len(rows):
        raise NoBound()
    gap = rows[2 * liars][0]
    low_lot = [name for _, fault in rows[:liars] for name in fault]
    high_lot = [name for _, fault in rows[liars:2 * liars] for name in fault]
    readings = {}
    for name in rack.names():
        # All other gauges are wide enough to be honest at 0 and at the gap with the greatest honest reading at 0.
        level = gap if name in low_lot else 0
        readings[name] = level + rack.gauge(name).slack_below()
    return Twins(readings, 0, low_lot, gap, high_lot)
