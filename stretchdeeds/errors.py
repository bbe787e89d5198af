"""The refusals: each has a class of its own, and all stand under StretchError alone."""


class StretchError(ValueError):
    pass


class NoText(StretchError):
    def __init__(self, at):
        StretchError.__init__(self, f"the text is not as told, at {at!r}")
        self.at = at


class NotLetBy(StretchError):
    def __init__(self, what):
        StretchError.__init__(self, f"the algebra is not let by: {what!r}")
        self.what = what


class NoMake(StretchError):
    pass


class NoStretch(StretchError):
    pass


class NoValue(StretchError):
    pass


class NoDeed(StretchError):
    pass


class NoSign(StretchError):
    pass


class TooGreat(StretchError):
    pass


class NoRow(StretchError):
    pass
