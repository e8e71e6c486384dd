"""The refusals of the program, one class for each."""


class RingError(ValueError):
    pass


class Early(RingError):
    pass


class NoClock(RingError):
    pass


class Asleep(RingError):
    pass


class Awake(RingError):
    pass


class NoText(RingError):
    pass


class Taken(RingError):
    pass


class NoStep(RingError):
    pass
