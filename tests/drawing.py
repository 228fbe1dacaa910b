"""Racks and rules that are drawn for tests, always the same ones for a seed."""

from gaugemiss.gauges import CoarseGauge, Gauge, LateCoarseGauge, LateGauge, Rack
from gaugemiss.rules import Leaf, Rank, Trim, Weigh

LETTERS = "abcdefghi"


def drawn_gauge(source, name, most=3):
    """A gauge of any kind with small numbers. Its slacks may differ."""
    radius, step = source.randint(0, most), source.randint(1, most + 1)
    late, pace = source.randint(0, 2), source.randint(0, 2)
    return source.choice([Gauge(name, radius), CoarseGauge(name, radius, step=step),
                          LateGauge(name, radius, late=late, pace=pace),
                          LateCoarseGauge(name, radius, step=step, late=late, pace=pace)])


def drawn_rack(source, names, *, groups=True, most=3):
    """A rack of these names, some of which share faults."""
    together = []
    if groups and len(names) > 1 and source.random() < 0.6:
        mixed = source.sample(list(names), len(names))
        cut = source.randint(1, len(names))
        together = [tuple(mixed[:cut]), tuple(mixed[cut:])][:source.randint(1, 2)]
    return Rack(*[drawn_gauge(source, name, most) for name in names], together=tuple(together))


def drawn_rule(source, names, deepest=8, trims=True):
    """A rule with these leaves from left to right."""
    if len(names) == 1 and (deepest == 0 or source.random() < 0.7):
        return Leaf(names[0])
    parts = [drawn_rule(source, some, deepest - 1, trims) for some in _cut(source, names, deepest)]
    kind = source.choice(["rank", "trim", "weigh"] if trims else ["rank", "weigh"])
    if kind == "rank":
        return Rank.of(source.randrange(len(parts)), parts)
    if kind == "trim":
        return Trim.of(source.randint(0, (len(parts) - 1) // 2), parts)
    weights = [source.randint(0, 3) for _ in parts]
    weights[source.randrange(len(parts))] += 1
    return Weigh.of(weights, parts)


def _cut(source, names, deepest):
    """The names in one row of lists; one list each if the rule may not nest deeper."""
    if deepest <= 1:
        return [[name] for name in names]
    cuts = sorted(source.sample(range(1, len(names)), source.randint(0, len(names) - 1)))
    return [names[low:high] for low, high in zip([0, *cuts], [*cuts, len(names)])]


def nested(depth, name="a", head="rank 0"):
    """The written form of a rule that nests so deep."""
    return f"{head} (" * depth + name + ")" * depth


def leaves(letters):
    return [Leaf(letter) for letter in letters]


def full_rack():
    """Nine gauges with numbers of 60 digits."""
    far = 10 ** 60 - 1
    return Rack(*[LateCoarseGauge(name, far - at, step=at + 1, late=2, pace=at) for at, name in enumerate(LETTERS)])


def full_rules():
    """Rules with nine leaves, one of which nests 8 deep."""
    deep = Leaf("a")
    for at, name in enumerate("bcdefgh"):
        deep = Trim(0, deep, Leaf(name)) if at % 2 else Weigh([2, 1], deep, Leaf(name))
    return [Rank.median(*leaves(LETTERS)), Trim.of(3, leaves(LETTERS)), Weigh.of(list(range(1, 10)), leaves(LETTERS)),
            Trim(1, *[Trim.of(1, leaves(three)) for three in ("abc", "def", "ghi")]), Rank(1, deep, Leaf("i")),
            Rank.of(4, [Rank(0, leaf) for leaf in leaves(LETTERS)])]
