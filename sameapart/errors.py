"""The refusals: one class for each, all straight beneath ApartError."""


class ApartError(ValueError):
    pass


class NoSize(ApartError):
    pass


class NoSuch(ApartError):
    pass


class NoRow(ApartError):
    pass


class NoPerson(ApartError):
    pass


class NoNote(ApartError):
    pass
