"""The refusals, a class each, so that whoever asks can tell them apart."""


class RestError(ValueError):
    pass


class BadRest(RestError):
    pass


class BadForm(RestError):
    pass


class BadTable(RestError):
    pass


class NoForm(RestError):
    pass


class TooGreat(RestError):
    pass


class NoText(RestError):
    pass


class Meets(RestError):
    def __init__(self, one, other):
        self.one = one
        self.other = other


class Lone(RestError):
    def __init__(self, place):
        self.place = place
