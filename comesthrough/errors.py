"""The errors of the package: each keeps the very objects that it was constructed with."""


class ThroughError(ValueError):
    """What every error of the package is; it is raised nowhere itself."""


class BadStep(ThroughError):
    """The step with this index in a row cannot be done."""

    def __init__(self, index):
        self.index = index


class CannotStep(ThroughError):
    """This person waits, or is ended."""

    def __init__(self, person):
        self.person = person


class Forgets(ThroughError):
    """This kind of a crew does not keep its age."""

    def __init__(self, kind):
        self.kind = kind


class GoesRound(ThroughError):
    """Each of these persons can be put out by the next one, and the last one by the first."""

    def __init__(self, persons):
        self.persons = persons


class NoCommand(ThroughError):
    """A line is no command of the desk."""


class NoKind(ThroughError):
    """No kind of the house has this name."""

    def __init__(self, name):
        self.name = name


class NoPerson(ThroughError):
    """Nobody in the hall has this index."""

    def __init__(self, person):
        self.person = person


class NoSort(ThroughError):
    """No sort of the house has this name."""

    def __init__(self, name):
        self.name = name


class NoText(ThroughError):
    """The line with this index is the first bad one of a text."""

    def __init__(self, line):
        self.line = line


class NotKept(ThroughError):
    """The wish with this index would not hold; shown is what shows it."""

    def __init__(self, index, shown):
        self.index = index
        self.shown = shown


class NotLater(ThroughError):
    """This kind would rise to an earlier one."""

    def __init__(self, kind):
        self.kind = kind


class NotMeek(ThroughError):
    """The house is not meek."""


class Nothing(ThroughError):
    """There is nothing to be taken back, or to be done again."""


class Taken(ThroughError):
    """This name is in use."""

    def __init__(self, name):
        self.name = name


class TooFew(ThroughError):
    """The only one of its sort cannot go."""


class TooMany(ThroughError):
    """There are more than so many, or would be."""

    def __init__(self, most):
        self.most = most


class Wrong(ThroughError):
    """The argument at this place is not as described."""

    def __init__(self, place):
        self.place = place
