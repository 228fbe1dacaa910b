"""The errors of the program. Their attributes say what was wrong."""


class GaugeError(ValueError):
    """The base class of all errors of the program."""


class BadStretch(GaugeError):
    """The low end of a stretch is greater than its high end."""

    def __init__(self, low, high):
        GaugeError.__init__(self, f"no stretch goes from {low} to {high}")
        self.low = low
        self.high = high


class NoLevel(GaugeError):
    """A level is asked for where there is none."""

    def __init__(self):
        GaugeError.__init__(self, "there is no such level")


class Apart(NoLevel):
    """Two stretches, given as pairs of their ends, have no common level."""

    def __init__(self, first, second):
        NoLevel.__init__(self)
        self.first = first
        self.second = second


class BadNeed(GaugeError):
    """A needed depth is less than 1."""

    def __init__(self, number):
        GaugeError.__init__(self, f"the needed depth {number} is too small")
        self.number = number


class BadLiars(GaugeError):
    """A number of liars is negative or too great."""

    def __init__(self, number):
        GaugeError.__init__(self, f"there cannot be {number} liars here")
        self.number = number


class BadGauge(GaugeError):
    """A gauge has a wrong name or too small a number."""

    def __init__(self, name):
        GaugeError.__init__(self, f"the name or a number of gauge {name!r} is wrong")
        self.name = name


class DuplicateGauge(GaugeError):
    """A name occurs a second time where it may occur once only."""

    def __init__(self, name):
        GaugeError.__init__(self, f"gauge {name!r} occurs twice")
        self.name = name


class UnknownGauge(GaugeError):
    """A name is the name of no gauge."""

    def __init__(self, name):
        GaugeError.__init__(self, f"there is no gauge {name!r}")
        self.name = name


class MissingReading(GaugeError):
    """A gauge has no reading, but its reading is needed."""

    def __init__(self, name):
        GaugeError.__init__(self, f"gauge {name!r} has no reading")
        self.name = name


class BadRule(GaugeError):
    """A rule of this kind cannot be made from these parts and numbers."""

    def __init__(self, kind):
        GaugeError.__init__(self, f"no {kind} rule has these parts and numbers")
        self.kind = kind


class BadText(GaugeError):
    """A text is not the written form of anything."""

    def __init__(self, text):
        GaugeError.__init__(self, f"{text!r} cannot be read")
        self.text = text


class BadLine(GaugeError):
    """A line of a text is wrong. Lines count from 1."""

    def __init__(self, line):
        GaugeError.__init__(self, f"line {line} is wrong")
        self.line = line


class SharedFault(GaugeError):
    """A gauge shares its fault with another one."""

    def __init__(self, name):
        GaugeError.__init__(self, f"gauge {name!r} shares its fault with another one")
        self.name = name


class BadPaper(GaugeError):
    """A row of a paper is wrong. Rows count from 0."""

    def __init__(self, row):
        GaugeError.__init__(self, f"row {row} of the paper is wrong")
        self.row = row


class NoBound(GaugeError):
    """There is no bound of the distance."""

    def __init__(self):
        GaugeError.__init__(self, "the distance has no bound")


class BadLimit(GaugeError):
    """A limit is negative."""

    def __init__(self, number):
        GaugeError.__init__(self, f"the limit {number} is negative")
        self.number = number


class NoCase(GaugeError):
    """No case does what is asked for with the gauges of this lot."""

    def __init__(self, lot):
        GaugeError.__init__(self, f"there is no such case for {lot!r}")
        self.lot = list(lot)


class NoTruth(GaugeError):
    """No level is possible at a tick."""

    def __init__(self, tick):
        GaugeError.__init__(self, f"no level is possible at tick {tick}")
        self.tick = tick


class NoTick(GaugeError):
    """There is no tick of this number."""

    def __init__(self, tick):
        GaugeError.__init__(self, f"there is no tick {tick}")
        self.tick = tick


class NotPossible(GaugeError):
    """A level is not possible."""

    def __init__(self, level):
        GaugeError.__init__(self, f"the level {level} is not possible")
        self.level = level


class NothingToUndo(GaugeError):
    """There is no change that can be taken back."""

    def __init__(self):
        GaugeError.__init__(self, "there is nothing to undo")


class NothingToRedo(GaugeError):
    """There is no change that can be made again."""

    def __init__(self):
        GaugeError.__init__(self, "there is nothing to redo")


class NotRanked(GaugeError):
    """A rule has a Trim in it where none may be."""

    def __init__(self):
        GaugeError.__init__(self, "a rule with a trim in it cannot be compared so")


class NoRule(GaugeError):
    """No rule is left that gives this reply."""

    def __init__(self, reply):
        GaugeError.__init__(self, f"no rule is left that replies {reply}")
        self.reply = reply
