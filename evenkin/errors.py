"""The refusals: each stands straight under KinError."""


class KinError(ValueError):
    pass


class NoWeb(KinError):
    def __init__(self, place):
        KinError.__init__(self, f"no web: wrong at place {place}")
        self.place = place


class NoStep(KinError):
    def __init__(self, place):
        KinError.__init__(self, f"no reckoning: step {place} names no earlier step")
        self.place = place


class NoOrder(KinError):
    pass


class NoText(KinError):
    pass


class NoName(KinError):
    pass


class NoLine(KinError):
    pass
