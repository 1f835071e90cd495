"""The refusals: what is raised where something handed in is none of what it should be."""


class OutlastError(ValueError):
    pass


class NoProgram(OutlastError):
    pass


class NoLog(OutlastError):
    def __init__(self, line):
        self.line = line


class NoState(OutlastError):
    pass


class NoRule(OutlastError):
    pass


class NoPolicy(OutlastError):
    pass


class NoLine(OutlastError):
    pass


class NoRun(OutlastError):
    pass


class NoCommand(OutlastError):
    pass
