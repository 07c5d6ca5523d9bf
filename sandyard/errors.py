"""The refusals of the program: one class for each, all of them below SandError."""


class SandError(ValueError):
    pass


class NoYard(SandError):
    pass


class NoText(SandError):
    pass


class NoTumble(SandError):
    pass


class NoRest(SandError):
    pass


class NotLasting(SandError):
    pass
