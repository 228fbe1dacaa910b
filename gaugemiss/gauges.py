"""Gauges that may lie, and racks of gauges that may share faults."""

from gaugemiss.errors import BadGauge, BadLiars, DuplicateGauge, UnknownGauge
from gaugemiss.sharing import shared
from gaugemiss.stretch import Stretch

LETTERS = "abcdefghijklmnopqrstuvwxyz"
BARRED = ("rank", "trim", "weigh", "together")


def is_gauge_name(name):
    """Whether a gauge may have this name."""
    if not isinstance(name, str) or name in BARRED:
        return False
    return 1 <= len(name) <= Gauge.LONGEST and all([sign in LETTERS for sign in name])


class Gauge:
    """A gauge whose honest readings are at most radius away from the true level."""

    LONGEST = 12

    def __init__(self, name, radius):
        if not is_gauge_name(name) or radius < 0:
            raise BadGauge(name)
        self.name = name
        self.radius = radius

    def slack_below(self):
        """How far the true level can be below an honest reading."""
        return self.radius

    def slack_above(self):
        """How far the true level can be above an honest reading."""
        return self.radius

    @property
    def width(self):
        """The sum of both slacks."""
        return self.slack_below() + self.slack_above()

    def told(self, reading):
        """The stretch of the levels for which a reading is honest."""
        return Stretch(reading - self.slack_below(), reading + self.slack_above())

    def honest(self, reading, level):
        """Whether a reading is honest at a level."""
        return level in self.told(reading)

    def extremes(self, level):
        """The least and the greatest honest reading at a level."""
        return level - self.slack_above(), level + self.slack_below()


class CoarseGauge(Gauge):
    """A gauge that rounds down what it shows, by at most step - 1."""

    def __init__(self, name, radius, *, step):
        Gauge.__init__(self, name, radius)
        if step < 1:
            raise BadGauge(name)
        self.step = step

    def slack_above(self):
        """How far the true level can be above an honest reading."""
        return super().slack_above() + self.step - 1


class LateGauge(Gauge):
    """A gauge whose reading is up to late ticks old, while the level moves at most pace a tick."""

    def __init__(self, name, radius, *, late, pace):
        Gauge.__init__(self, name, radius)
        if late < 0 or pace < 0:
            raise BadGauge(name)
        self.late = late
        self.pace = pace

    def slack_below(self):
        """How far the true level can be below an honest reading."""
        return super().slack_below() + self.late * self.pace

    def slack_above(self):
        """How far the true level can be above an honest reading."""
        return super().slack_above() + self.late * self.pace


class LateCoarseGauge(LateGauge, CoarseGauge):
    """A gauge that is late and coarse. Its slacks take both additions, one from each base class."""

    def __init__(self, name, radius, *, step, late, pace):
        LateGauge.__init__(self, name, radius, late=late, pace=pace)
        CoarseGauge.__init__(self, name, radius, step=step)


def _faults_of(names, together):
    """The faults of a rack with these names, as lists of names in rack order."""
    groups = {member: group for group in together for member in group}
    faults = []
    for name in names:
        fault = [other for other in names if other == name or other in groups.get(name, ())]
        if fault[0] == name:
            faults.append(fault)
    return faults


class Rack:
    """Gauges in order. The gauges of a group in together share a fault."""

    def __init__(self, *gauges, together=()):
        self._gauges = []
        for each in gauges:
            if each.name in self:
                raise DuplicateGauge(each.name)
            self._gauges.append(each)
        grouped = []
        for group in together:
            for name in group:
                self._refuse_unknown([name])
                if name in grouped:
                    raise DuplicateGauge(name)
                grouped.append(name)
        self._faults = _faults_of(self.names(), together)

    @classmethod
    def of(cls, gauges, together=()):
        """The rack of a list of gauges."""
        return cls(*gauges, together=together)

    def names(self):
        """The names in rack order."""
        return [each.name for each in self._gauges]

    def gauge(self, name):
        """The gauge of that name."""
        for each in self._gauges:
            if each.name == name:
                return each
        raise UnknownGauge(name)

    def faults(self):
        """The faults as lists of names, ordered by their first gauge."""
        return [list(fault) for fault in self._faults]

    def fault_count(self, names):
        """The number of faults that contain at least one of the names."""
        self._refuse_unknown(names)
        return len([fault for fault in self._faults if any([name in names for name in fault])])

    def possible(self, readings, liars):
        """The levels that fit all present faults but at most so many."""
        self._refuse_unknown(sorted(list(readings)))
        present = self._told_by_fault(readings)
        if liars < 0 or liars >= len(present):
            raise BadLiars(liars)
        fits = [shared(stretches, len(stretches)) for stretches in present]
        # A fault that no level fits is present all the same: it lies, and so it counts in the need.
        return shared([piece for levels in fits for piece in levels], len(present) - liars)

    def fused(self, readings, liars):
        """The middle of the hull of the possible levels."""
        return self.possible(readings, liars).hull().middle

    def blame(self, readings, level):
        """The names whose told stretch does not contain a level, in rack order."""
        self._refuse_unknown(sorted(list(readings)))
        shown = [each for each in self._gauges if each.name in readings]
        return [each.name for each in shown if not each.honest(readings[each.name], level)]

    def _refuse_unknown(self, names):
        """Raise UnknownGauge for the first name that no gauge has."""
        for name in names:
            if name not in self:
                raise UnknownGauge(name)

    def _told_by_fault(self, readings):
        """The told stretches of each present fault."""
        told = [[self.gauge(name).told(readings[name]) for name in fault if name in readings]
                for fault in self._faults]
        return [stretches for stretches in told if stretches]

    def __len__(self):
        return len(self._gauges)

    def __contains__(self, x):
        return x in self.names()
