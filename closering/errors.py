"""The refusals of the program, one class for each."""


class WebError(ValueError):
    pass


class BadWeb(WebError):
    pass


class BadPoint(WebError):
    pass


class BadTie(WebError):
    pass


class Unlike(WebError):
    pass


class BadText(WebError):
    pass
