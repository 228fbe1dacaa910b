"""The written forms of rules, gauges and racks. What is read has to be written in just this form."""

from gaugemiss.errors import BadGauge, BadLine, BadRule, BadText, DuplicateGauge
from gaugemiss.gauges import CoarseGauge, Gauge, LateCoarseGauge, LateGauge, Rack, is_gauge_name
from gaugemiss.rules import Leaf, Rank, Trim, Weigh

DIGITS = "0123456789"
LONGEST_NUMBER = 18
DEEPEST = 8


def _number_of(word):
    """The number that a word writes."""
    if not 1 <= len(word) <= LONGEST_NUMBER or not all([sign in DIGITS for sign in word]):
        raise BadText(word)
    if word[0] == "0" and word != "0":
        raise BadText(word)
    return int(word)


def read_rule(text):
    """The rule whose written form is the text."""
    try:
        return _rule_of(text, DEEPEST)
    except (BadRule, BadText, DuplicateGauge):
        raise BadText(text) from None


def _rule_of(text, deepest):
    """The rule whose written form is the text, if it nests at most so deep."""
    if is_gauge_name(text):
        return Leaf(text)
    head, _, inside = text.partition(" (")
    if deepest == 0 or not inside.endswith(")"):
        raise BadText(text)
    kind, *words = head.split(" ")
    numbers = [_number_of(word) for word in words]
    parts = [_rule_of(part, deepest - 1) for part in _split_parts(inside[:-1])]
    if kind == "weigh":
        return Weigh.of(numbers, parts)
    if kind == "rank" and len(numbers) == 1:
        return Rank.of(numbers[0], parts)
    if kind == "trim" and len(numbers) == 1:
        return Trim.of(numbers[0], parts)
    raise BadText(text)


def _split_parts(text):
    """The texts between the commas that stand in no parentheses."""
    parts = []
    depth = 0
    for piece in text.split(", "):
        if depth == 0:
            parts.append(piece)
        else:
            parts[-1] = f"{parts[-1]}, {piece}"
        depth += piece.count("(") - piece.count(")")
    return parts


def write_gauge(gauge):
    """The line of a gauge."""
    line = f"{gauge.name} {gauge.radius}"
    if isinstance(gauge, CoarseGauge):
        line = f"{line} step {gauge.step}"
    if isinstance(gauge, LateGauge):
        line = f"{line} late {gauge.late} pace {gauge.pace}"
    return line


def read_gauge(line):
    """The gauge of a line."""
    try:
        return _gauge_of(line)
    except (BadGauge, BadText):
        raise BadText(line) from None


def _gauge_of(line):
    """The gauge of a line: a name, the radius, and further numbers, each behind a word that says which it is."""
    name, *words = line.split(" ")
    numbers = [_number_of(word) for word in words[::2]]
    marks = words[1::2]
    if len(numbers) != len(marks) + 1:
        raise BadText(line)
    if marks == []:
        return Gauge(name, numbers[0])
    if marks == ["step"]:
        return CoarseGauge(name, numbers[0], step=numbers[1])
    if marks == ["late", "pace"]:
        return LateGauge(name, numbers[0], late=numbers[1], pace=numbers[2])
    if marks == ["step", "late", "pace"]:
        return LateCoarseGauge(name, numbers[0], step=numbers[1], late=numbers[2], pace=numbers[3])
    raise BadText(line)


def write_rack(rack):
    """The text of a rack."""
    lines = [write_gauge(rack.gauge(name)) for name in rack.names()]
    groups = [f"together {' '.join(fault)}" for fault in rack.faults() if len(fault) > 1]
    return "\n".join(lines + groups)


def read_rack(text):
    """The rack of a text."""
    gauges = []
    groups = []
    lines = text.split("\n") if text else []
    for number, line in enumerate(lines, start=1):
        names = [gauge.name for gauge in gauges]
        try:
            if _is_together(line):
                groups.append(_group_of(line, names, groups))
            else:
                gauges.append(_next_gauge(line, names, groups))
        except BadText:
            raise BadLine(number) from None
    return Rack.of(gauges, together=tuple(groups))


def _is_together(line):
    """Whether a line is a together line, right or wrong."""
    return line.split(" ")[0] == "together"


def _group_of(line, names, groups):
    """The names in a together line, behind gauges of these names and together lines of these groups."""
    group = tuple(line.split(" ")[1:])
    taken = [name for earlier in groups for name in earlier]
    repeated = [name for at, name in enumerate(group) if name in taken or name in group[:at]]
    if len(group) < 2 or repeated or not all([name in names for name in group]):
        raise BadText(line)
    return group


def _next_gauge(line, names, groups):
    """The gauge of a line, behind gauges of these names and together lines of these groups."""
    gauge = read_gauge(line)
    if groups or gauge.name in names:
        raise BadText(line)
    return gauge
