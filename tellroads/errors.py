"""The refusals of the program."""


# Any refusal: whoever takes this one takes them all.
class TellError(ValueError):
    pass


class NoNumber(TellError):
    pass


class NoRoad(TellError):
    pass


class Taken(TellError):
    pass


class Other(TellError):
    pass


class NoText(TellError):
    pass
