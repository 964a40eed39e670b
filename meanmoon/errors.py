"""The refusals, a class for each kind, with fields that tell what was refused."""

# Whole numbers are left out of the messages: Python refuses to write very long ones.


class NoShare(ZeroDivisionError):
    """A fraction over nought."""

    def __init__(self, top):
        ZeroDivisionError.__init__(self, "a share has no bottom of 0")
        self.top = top


class NoCalendar(ValueError):
    """A month and a year that make no calendar."""

    def __init__(self, why):
        ValueError.__init__(self, f"no calendar: {why}")
        self.why = why


class NoDate(LookupError):
    """A date that the calendar hasn't."""

    def __init__(self, date, why):
        LookupError.__init__(self, f"no such date: {why}")
        self.date = date
        self.why = why


class NoWheel(ValueError):
    """Names that make no wheel."""

    def __init__(self, names):
        ValueError.__init__(self, "a wheel has one name at least, and none of them twice")
        self.names = names


class NoName(KeyError):
    """A name that isn't there."""

    def __init__(self, name):
        KeyError.__init__(self, f"no such name: {name}")
        self.name = name


class NoDay(LookupError):
    """Two wheels that never stand as wished together."""

    def __init__(self, one, two):
        LookupError.__init__(self, "two wheels never stand so together")
        self.one = one
        self.two = two


class Taken(ValueError):
    """A name that is there already."""

    def __init__(self, name):
        ValueError.__init__(self, f"the name is taken: {name}")
        self.name = name


class NoText(ValueError):
    """A text that writes nothing of what is read."""

    def __init__(self, at):
        ValueError.__init__(self, f"not read: {at}")
        self.at = at


class NoNote(IndexError):
    """A place where a date has no note."""

    def __init__(self, at):
        IndexError.__init__(self, "no note at this place")
        self.at = at


class NoDeed(RuntimeError):
    """Nothing to take back."""

    def __init__(self):
        RuntimeError.__init__(self, "no deed to take back")
