"""All errors of the package; their texts never show a value, which may be too long to be shown."""


class YardError(ValueError):
    """The error above all others of this package."""


class BadUnits(YardError):
    """The value is no UNITS."""

    def __init__(self, value):
        YardError.__init__(self, "no units")
        self.value = value


class BadRow(YardError):
    """The value is no row."""

    def __init__(self, value):
        YardError.__init__(self, "no row of these units")
        self.value = value


class BadRows(YardError):
    """The value is no tuple of at most 60 rows."""

    def __init__(self, place):
        YardError.__init__(self, "no tuple of rows")
        self.place = place


class BadStair(YardError):
    """The value is no stair."""

    def __init__(self, value):
        YardError.__init__(self, "no stair of these units")
        self.value = value


class BadNumbers(YardError):
    """The value is no tuple of a number for each unit."""

    def __init__(self, value):
        YardError.__init__(self, "no numbers of these units")
        self.value = value


class BadUnit(YardError):
    """The value is no unit, or none that may stand here."""

    def __init__(self, value):
        YardError.__init__(self, "no unit")
        self.value = value


class BadFormula(YardError):
    """The part with this path is no formula."""

    def __init__(self, path):
        YardError.__init__(self, "no formula")
        self.path = path


class BadRule(YardError):
    """The value is no rule."""

    def __init__(self, place):
        YardError.__init__(self, "no rule")
        self.place = place


class BadTree(YardError):
    """The part with this path is no tree."""

    def __init__(self, path):
        YardError.__init__(self, "no tree")
        self.path = path


class BadPlan(YardError):
    """The part with this path is no plan."""

    def __init__(self, path):
        YardError.__init__(self, "no plan")
        self.path = path


class BadWorld(YardError):
    """The value is no world."""

    def __init__(self, place):
        YardError.__init__(self, "no world")
        self.place = place


class BadWords(YardError):
    """The value is no words."""

    def __init__(self, place):
        YardError.__init__(self, "no words")
        self.place = place


class BadWheel(YardError):
    """The value is no wheel."""

    def __init__(self, place):
        YardError.__init__(self, "no wheel")
        self.place = place


class BadJoins(YardError):
    """The part with this path is no joins."""

    def __init__(self, path):
        YardError.__init__(self, "no joins")
        self.path = path


class BadDraw(YardError):
    """The part with this path is no draw."""

    def __init__(self, path):
        YardError.__init__(self, "no draw")
        self.path = path


class BadSteps(YardError):
    """The value is no steps, or they cannot be done."""

    def __init__(self, place):
        YardError.__init__(self, "no steps that can be done")
        self.place = place


class BadText(YardError):
    """The text is not as told from this word on."""

    def __init__(self, line, word):
        YardError.__init__(self, "no such text")
        self.line = line
        self.word = word


class BadDeed(YardError):
    """The value is no deed."""

    def __init__(self, place):
        YardError.__init__(self, "no deed")
        self.place = place


class BadIndex(YardError):
    """Nothing has this index or path."""

    def __init__(self, value):
        YardError.__init__(self, "no such index")
        self.value = value


class BadParameter(YardError):
    """The parameter may not have this value."""

    def __init__(self, value):
        YardError.__init__(self, "no such parameter")
        self.value = value


class NoRow(YardError):
    """There is no such row."""

    def __init__(self):
        YardError.__init__(self, "there is none")


class Unlike(YardError):
    """Two things are not as they would have to be."""

    def __init__(self, value):
        YardError.__init__(self, "unlike")
        self.value = value


class TooGreat(YardError):
    """A told number is greater than it may be."""

    def __init__(self, most):
        YardError.__init__(self, "too great")
        self.most = most


class NothingBack(YardError):
    """There is no deed to take back."""

    def __init__(self):
        YardError.__init__(self, "nothing to take back")
