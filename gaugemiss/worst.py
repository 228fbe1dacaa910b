"""The worst miss of a rule: how far its answer can be from the true level."""

from gaugemiss.errors import BadLiars, UnknownGauge
from gaugemiss.rules import Leaf, Rank


def liar_lots(rack, liars):
    """For each choice of so many faults, the names of their gauges in rack order."""
    names = rack.names()
    faults = rack.faults()
    for choice in _choices(len(faults), liars):
        lying = [name for at in choice for name in faults[at]]
        yield [name for name in names if name in lying]


def _choices(many, size):
    """All ascending lists of so many positions below many, in ascending order."""
    rows = [[]]
    for _ in range(size):
        rows = [[*row, at] for row in rows for at in range(row[-1] + 1 if row else 0, many)]
    return rows


def refuse_unknown(rack, rule):
    """Raise UnknownGauge for the first name of a rule that the rack does not have."""
    for name in rule.names():
        if name not in rack:
            raise UnknownGauge(name)


def refuse_liars(rack, liars):
    """Raise BadLiars if no choice of so many faults exists."""
    if liars < 0 or liars > len(rack.faults()):
        raise BadLiars(liars)


def slack_towards(gauge, side):
    """How far an honest reading can be from the true level on a side."""
    return gauge.slack_below() if side == "above" else gauge.slack_above()


def combined(rule, bounds, side):
    """The bound of a rule's miss on a side, from the bounds of its parts. None is farther out than every number."""
    sign = 1 if side == "above" else -1
    misses = [(sign, 0) if bound is None else (0, sign * bound) for bound in bounds]
    counted = rule.counted(misses)
    if any([out != 0 for out, _ in counted]):
        return None
    return sign * (sum([miss for _, miss in counted]) // len(counted))


class Miss:
    """The greatest misses of a rule above and below the true level; None where there is no greatest one."""

    def __init__(self, above, below):
        self.above = above
        self.below = below

    @property
    def worst(self):
        """The greater of the two, or None if one of them is None."""
        if self.above is None or self.below is None:
            return None
        return max(self.above, self.below)

    def __eq__(self, other):
        return isinstance(other, Miss) and self.above == other.above and self.below == other.below


def _reach(rule, slacks, side):
    """The greatest miss of a rule on a side. Only the honest gauges have a slack."""
    if isinstance(rule, Leaf):
        return slacks.get(rule.label)
    return combined(rule, [_reach(part, slacks, side) for part in rule.parts], side)


def _worst_lot(rack, rule, liars, side):
    """The greatest miss on a side, and a lot that reaches it.

    More liars never make the greatest miss smaller, so the lots of just so many faults are enough.
    """
    slacks = {name: slack_towards(rack.gauge(name), side) for name in rack.names()}
    rows = []
    for lot in liar_lots(rack, liars):
        honest = {name: slacks[name] for name in slacks if name not in lot}
        rows.append((_reach(rule, honest, side), lot))
    unbounded = [row for row in rows if row[0] is None]
    return unbounded[0] if unbounded else max(rows)


def worst_miss(rack, rule, liars):
    """The greatest misses of a rule if at most so many faults lie."""
    refuse_unknown(rack, rule)
    refuse_liars(rack, liars)
    above, _ = _worst_lot(rack, rule, liars, "above")
    below, _ = _worst_lot(rack, rule, liars, "below")
    return Miss(above, below)


class Case:
    """A true level, readings of all gauges, a lot of gauges that may lie, and the answer of a rule."""

    def __init__(self, level, readings, lot, reply):
        self.level = level
        self.readings = dict(readings)
        self.lot = list(lot)
        self.reply = reply

    @property
    def miss(self):
        """The answer minus the true level."""
        return self.reply - self.level

    def holds(self, rack, liars):
        """Whether this can happen on a rack of which at most so many faults lie."""
        names = rack.names()
        if sorted(list(self.readings)) != sorted(names) or not all([name in names for name in self.lot]):
            return False
        honest = [name for name in names if name not in self.lot]
        if not all([rack.gauge(name).honest(self.readings[name], self.level) for name in honest]):
            return False
        return rack.fault_count(self.lot) <= liars


def _case_of(rack, rule, lot, side, level, lie):
    """The case in which the lot lies so far out on a side, and the others are as far out as honest ones can be."""
    sign = 1 if side == "above" else -1
    readings = {}
    for name in rack.names():
        out = lie if name in lot else slack_towards(rack.gauge(name), side)
        readings[name] = level + sign * out
    return Case(level, readings, lot, rule.answer(readings))


def worst_case(rack, rule, liars, *, side="above", level=0, beyond=0):
    """A case that has the worst miss on a side, or a miss of at least beyond if there is no worst one."""
    refuse_unknown(rack, rule)
    refuse_liars(rack, liars)
    reach, lot = _worst_lot(rack, rule, liars, side)
    goal = beyond if reach is None else reach
    lie = 1
    case = _case_of(rack, rule, lot, side, level, lie)
    # A mean may take in only a part of a lie. No miss grows past the worst one, so any great enough lie will do.
    while abs(case.miss) < goal:
        lie *= 2
        case = _case_of(rack, rule, lot, side, level, lie)
    return case


def too_many(rack, rule):
    """The least number of liars for which the worst miss is None."""
    liars = 0
    while worst_miss(rack, rule, liars).worst is not None:
        liars += 1
    return liars


def order_rules(rack, rules, liars):
    """The pairs (position, worst) of a list of rules, the best rule first."""
    worsts = [worst_miss(rack, rule, liars).worst for rule in rules]
    bounded = sorted([(worst, at) for at, worst in enumerate(worsts) if worst is not None])
    unbounded = [(at, None) for at, worst in enumerate(worsts) if worst is None]
    return [(at, worst) for worst, at in bounded] + unbounded


def best_rule(rack, rules, liars):
    """The position of the rule with the least worst miss, or None without rules."""
    order = order_rules(rack, rules, liars)
    return order[0][0] if order else None


def tree_loss(rack, rule, liars):
    """By how much the worst miss of a rule is greater than that of the median of its leaves."""
    leaves = [Leaf(name) for name in rule.names()]
    own = worst_miss(rack, rule, liars).worst
    flat = worst_miss(rack, Rank.median(*leaves), liars).worst
    return None if own is None or flat is None else own - flat


def miss_table(rack, rule):
    """The worst misses of a rule for each number of liars, one line each."""
    return [_table_line(liars, worst_miss(rack, rule, liars)) for liars in range(len(rack.faults()) + 1)]


def _table_line(liars, miss):
    """The line of the table for a number of liars."""
    above = "none" if miss.above is None else str(miss.above)
    below = "none" if miss.below is None else str(miss.below)
    return f"{liars:>2} {above:>8} {below:>8}"
