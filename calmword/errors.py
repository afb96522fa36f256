"""The refusals of calmword: each stands right under CalmError, none under another."""


class CalmError(ValueError):
    pass


class BadLetters(CalmError):
    pass


class BadRoom(CalmError):
    def __init__(self, room):
        CalmError.__init__(self, f"room {room}")
        self.room = room


class NoLetter(CalmError):
    def __init__(self, at):
        CalmError.__init__(self, f"no letter at place {at}")
        self.at = at


class BadText(CalmError):
    def __init__(self, at):
        CalmError.__init__(self, f"not the form that is due at {at}")
        self.at = at


class OtherLetters(CalmError):
    pass


class TooMany(CalmError):
    def __init__(self, at):
        CalmError.__init__(self, f"too many at {at}")
        self.at = at


class BadRow(CalmError):
    def __init__(self, at):
        CalmError.__init__(self, f"row {at}")
        self.at = at


class TooLong(CalmError):
    pass


class NotClosed(CalmError):
    def __init__(self, names):
        CalmError.__init__(self, f"free names {names!r}")
        self.names = names


class NotCalm(CalmError):
    pass


class NoName(CalmError):
    def __init__(self, name):
        CalmError.__init__(self, f"name {name!r}")
        self.name = name


class NoRow(CalmError):
    pass
