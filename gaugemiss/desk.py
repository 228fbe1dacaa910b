"""A desk that follows one level tick by tick."""

from gaugemiss.errors import NoTick, NoTruth, NothingToRedo, NothingToUndo, NotPossible, UnknownGauge
from gaugemiss.stretch import Levels, Stretch
from gaugemiss.worst import liar_lots, refuse_liars


class Account:
    """What a desk was told, and the levels that this leaves.

    rows has the readings of each tick. track begins with a row from before the first tick and goes on with one for
    each tick. Such a row has the levels for each way to lie. An account is never changed, so that a desk can keep old
    ones and go back to them.
    """

    def __init__(self, liars, rows, track):
        self.liars = liars
        self.rows = rows
        self.track = track


def _union(row):
    """The levels of all ways to lie together."""
    # The property now runs this, so the set is made here: Levels.of would call the class that it is handed.
    pieces = [piece for levels in row for piece in levels]
    return Levels(*pieces)


def _within(levels, stretches):
    """Those of the levels that lie in all stretches."""
    if not stretches:
        return levels
    low = max([each.low for each in stretches])
    high = min([each.high for each in stretches])
    return levels & Levels(Stretch(low, high)) if low <= high else Levels()


class Desk:
    """Follows a level that moves by at most pace a tick. At each tick at most so many faults lie, always any ones."""

    def __init__(self, rack, start, *, liars=0, pace=0):
        refuse_liars(rack, liars)
        self._rack = rack
        self._start = Levels(start)
        self._pace = pace
        self._account = Account(liars, [], self._begun(liars))
        self._past = []
        self._future = []

    def _ways(self, liars):
        """The ways to lie. Here there is one only: so many faults at each tick."""
        return [liars]

    def _fitting(self, near, readings, ways):
        """For each way to lie, those of the near levels that the readings of a tick leave."""
        present = self._rack.fault_count(list(readings))
        return [levels & self._rack.possible(readings, liars) if liars < present else levels
                for levels, liars in zip(near, ways)]

    def _begun(self, liars):
        """The track before the first tick."""
        return [[self._start for _ in self._ways(liars)]]

    def _followed(self, liars, rows, known):
        """The account of these rows, if the track is known up to some tick."""
        ways = self._ways(liars)
        track = list(known)
        for tick in range(len(known) - 1, len(rows)):
            near = [levels.grown(self._pace, self._pace) for levels in track[-1]]
            track.append(self._fitting(near, rows[tick], ways))
            if not _union(track[-1]):
                raise NoTruth(tick)
        return Account(liars, rows, track)

    def _with_tick(self, account, readings):
        """The account with one more tick."""
        for name in sorted(list(readings)):
            self._refuse_unknown(name)
        return self._followed(account.liars, account.rows + [dict(readings)], account.track)

    def _refuse_unknown(self, name):
        """Raise UnknownGauge if no gauge has this name."""
        if name not in self._rack:
            raise UnknownGauge(name)

    def _refuse_tick(self, tick):
        """Raise NoTick if there is no such tick."""
        if not 0 <= tick < len(self):
            raise NoTick(tick)

    def _change_to(self, account):
        """Go on with a new account, from which nothing can be redone."""
        self._past.append(self._account)
        self._future = []
        self._account = account

    @property
    def now(self):
        """The levels that are possible at the last tick, or before the first one."""
        return _union(self._account.track[-1])

    @property
    def allowed(self):
        """The number of faults that may lie."""
        return self._account.liars

    @allowed.setter
    def allowed(self, liars):
        refuse_liars(self._rack, liars)
        self._change_to(self._followed(liars, self._account.rows, self._begun(liars)))

    def allow(self, liars):
        """Assign the number of faults that may lie."""
        self.allowed = liars

    def record(self, readings):
        """Add a tick with these readings, and return the levels that are possible then."""
        self._change_to(self._with_tick(self._account, readings))
        return self.now

    def tell_late(self, name, tick, reading):
        """Add a reading to an earlier tick or replace it there, and return the levels that are possible now."""
        self._refuse_unknown(name)
        self._refuse_tick(tick)
        rows = list(self._account.rows)
        rows[tick] = {**rows[tick], name: reading}
        self._change_to(self._followed(self.allowed, rows, self._account.track[:tick + 1]))
        return self.now

    def undo(self):
        """Take back the last change that is not taken back yet."""
        if not self._past:
            raise NothingToUndo()
        self._future.append(self._account)
        self._account = self._past.pop()

    def redo(self):
        """Make the change again that was taken back last."""
        if not self._future:
            raise NothingToRedo()
        self._past.append(self._account)
        self._account = self._future.pop()

    def trial(self, rows):
        """The levels that would be possible after each of these rows of readings. The desk stays as it is."""
        account = self._account
        found = []
        for readings in rows:
            account = self._with_tick(account, readings)
            found.append(_union(account.track[-1]))
        return found

    def at(self, tick):
        """The levels that are possible at a tick, in view of the readings up to it."""
        self._refuse_tick(tick)
        return _union(self._account.track[tick + 1])

    def smoothed(self, tick):
        """The levels at a tick from which a story goes on up to the last tick."""
        self._refuse_tick(tick)
        track = self._account.track
        row = track[-1]
        for earlier in track[tick + 1:-1][::-1]:
            row = [levels & later.grown(self._pace, self._pace) for levels, later in zip(earlier, row)]
        return _union(row)

    def story(self, level):
        """A story that ends with a level: a pair (level, blamed names) for each tick."""
        ways = [at for at, levels in enumerate(self._account.track[-1]) if level in levels]
        if not ways:
            raise NotPossible(level)
        pairs = []
        for readings, row in list(zip(self._account.rows, self._account.track[1:]))[::-1]:
            # The level that comes next is near to a level of the same way, so it is near to the nearest one.
            level = row[ways[0]].nearest(level)
            pairs.append((level, self._rack.blame(readings, level)))
        return pairs[::-1]

    def walk(self):
        """For each tick its number, its readings, and the levels that are possible then."""
        account = self._account
        for tick, readings in enumerate(account.rows):
            yield tick, dict(readings), _union(account.track[tick + 1])

    def answer(self, rule):
        """The answer of a rule to the readings of the last tick."""
        if len(self) == 0:
            raise NoTick(0)
        return rule.answer(self._account.rows[-1])

    def doubt(self, answer):
        """The greatest distance between an answer and a level that is possible now."""
        return self.now.hull().farthest(answer)

    def wrong_now(self):
        """The names whose reading at the last tick fits no level that is possible now."""
        if len(self) == 0:
            return []
        told = self._told(self._account.rows[-1])
        now = self.now
        return [name for name in self._rack.names() if name in told and not Levels(told[name]) & now]

    def _told(self, readings):
        """The stretch that each reading tells."""
        return {name: self._rack.gauge(name).told(readings[name]) for name in readings}

    def __len__(self):
        return len(self._account.rows)


class SteadyDesk(Desk):
    """A desk on which the faults that lie are the same ones at all ticks."""

    def _ways(self, liars):
        """The ways to lie: the gauges of each choice of so many faults."""
        return list(liar_lots(self._rack, liars))

    def _fitting(self, near, readings, ways):
        """For each way to lie, those of the near levels that the readings of a tick leave."""
        told = self._told(readings)
        return [_within(levels, [told[name] for name in told if name not in lot]) for levels, lot in zip(near, ways)]
