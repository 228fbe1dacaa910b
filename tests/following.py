"""A slow model of desks, level by level, and drawn desks for it."""

from gaugemiss.desk import Desk, SteadyDesk
from gaugemiss.stretch import Stretch
from tests.drawing import drawn_rack

KINDS = (Desk, SteadyDesk)


def full_ends(numbers):
    """The pieces of a set of numbers, found number by number."""
    return list(zip([number for number in sorted(numbers) if number - 1 not in numbers],
                    [number for number in sorted(numbers) if number + 1 not in numbers]))


class Model:
    """All stories of a desk, found by going through all rows of levels."""

    def __init__(self, kind, rack, start, liars, pace):
        self.kind, self.rack, self.start, self.liars, self.pace = kind, rack, start, liars, pace
        self.rows = []

    def copied(self, rows=None, liars=None):
        other = Model(self.kind, self.rack, self.start, self.liars if liars is None else liars, self.pace)
        other.rows = [dict(row) for row in (self.rows if rows is None else rows)]
        return other

    def stories(self, ticks):
        """All rows of levels for the first ticks that agree with the readings."""
        found = [(level,) for level in range(self.start.low, self.start.high + 1)]
        for tick in range(ticks):
            found = [(*row, row[-1] + move) for row in found for move in range(-self.pace, self.pace + 1)]
            # The level before the first tick belongs to no story, so that the same story may come from several ones.
            found = sorted({row[1:] for row in found} if tick == 0 else set(found))
            found = [row for row in found if self.agrees(row)]
        return found

    def agrees(self, row):
        blames = [self.rack.blame(readings, level) for readings, level in zip(self.rows, row)]
        if self.kind is SteadyDesk:
            blames = [sum(blames, [])]
        return all(self.rack.fault_count(blame) <= self.liars for blame in blames)

    def first_false(self):
        """The first tick at which no level is possible, or None."""
        return next((tick for tick in range(len(self.rows)) if not self.stories(tick + 1)), None)

    def at(self, tick):
        return full_ends({row[-1] for row in self.stories(tick + 1)})

    def smoothed(self, tick):
        return full_ends({row[tick] for row in self.stories(len(self.rows))})

    def now(self):
        if not self.rows:
            return [(self.start.low, self.start.high)]
        return self.at(len(self.rows) - 1)


def drawn_readings(source, rack, centre=3, spread=5):
    """Readings of some gauges near a level."""
    return {name: centre + source.randint(-spread, spread) for name in rack.names() if source.random() < 0.7}


def drawn_pair(source, kind, names="abcd", most=2):
    """An empty desk with a model of it."""
    rack = drawn_rack(source, source.sample(names, source.randint(1, len(names))), most=most)
    low = source.randint(-3, 4)
    start, liars = Stretch(low, low + source.randint(0, 7)), source.randint(0, min(2, len(rack.faults())))
    pace = source.randint(0, 2)
    return kind(rack, start, liars=liars, pace=pace), Model(kind, rack, start, liars, pace)


def look(desk):
    """All that a desk tells of its levels, readings and number of liars."""
    ticks = range(len(desk))
    return [desk.now.ends(), desk.allowed, len(desk), list(map(str, map(desk.at, ticks))),
            [desk.smoothed(tick).ends() for tick in ticks],
            [(tick, sorted(readings.items()), levels.ends()) for tick, readings, levels in desk.walk()]]


def look_deep(desk):
    """All that a desk tells, also after each number of steps back and forth. The desk ends where it was."""
    back, forth, steps = [look(desk)], [], 0
    while step(desk.undo):
        back.append(look(desk))
        steps += 1
    for _ in range(steps):
        desk.redo()
    ahead = 0
    while step(desk.redo):
        forth.append(look(desk))
        ahead += 1
    for _ in range(ahead):
        desk.undo()
    return back, forth


def step(call):
    """Whether there is something to undo or redo."""
    try:
        call()
    except ValueError:
        return False
    return True
