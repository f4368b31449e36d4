"""The refusals: each stands straight under CrossError, none under another one."""


class CrossError(ValueError):
    pass


class NoFields(CrossError):
    pass


class NoSieve(CrossError):
    pass


class NoView(CrossError):
    pass


class NoHead(CrossError):
    pass


class NoNet(CrossError):
    pass


class NoWhole(CrossError):
    pass


class NoGroups(CrossError):
    pass


class NoLine(CrossError):
    pass


class NoRow(CrossError):
    def __init__(self, place):
        self.place = place


class NoSuch(CrossError):
    def __init__(self, number):
        self.number = number


class NoField(CrossError):
    def __init__(self, name):
        self.name = name


class NoKind(CrossError):
    def __init__(self, name):
        self.name = name


class NoVeil(CrossError):
    def __init__(self, cell):
        self.cell = cell
