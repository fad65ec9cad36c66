"""The refusals of the program, a class for each."""


class NearError(ValueError):
    pass


class NoBook(NearError):
    pass


class Uneven(NearError):
    pass


class NoWord(NearError):
    pass


class NoNumber(NearError):
    pass


class NoWeights(NearError):
    pass


class NoDeeds(NearError):
    pass


class Unlike(NearError):
    pass


class TooBig(NearError):
    pass


class NoText(NearError):
    pass
