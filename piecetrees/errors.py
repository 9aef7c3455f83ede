"""The errors of the package: all directly under PieceError."""


class PieceError(ValueError):
    """Any error that this package raises by the document; in words it tells the name of its class."""

    def __str__(self):
        return str(self.__class__.__name__)


class Unfit(PieceError):
    """Arguments that do not fit one another."""


class TooMany(PieceError):
    """There is more than a bound lets there be."""

    def __init__(self, limit):
        self.limit = limit


class BadText(PieceError):
    """A value that is the text of no table."""

    def __init__(self, line):
        self.line = line


class NotPiece(PieceError):
    """What is no piece of the table."""

    def __init__(self, lot):
        self.lot = lot


class NotTree(PieceError):
    """What is no tree of the size."""

    def __init__(self, error):
        self.error = error


class TooFar(PieceError):
    """A place that is not below the count of what is there."""

    def __init__(self, count):
        self.count = count


class NotFirm(PieceError):
    """A lot whose part is not firm."""

    def __init__(self, lot):
        self.lot = lot


class NotTurning(PieceError):
    """A table that is no turning of the web."""

    def __init__(self, error):
        self.error = error


class NotLoose(PieceError):
    """An arrow that is not taken, or whose class is not loose."""

    def __init__(self, arrow):
        self.arrow = arrow


class NotDrawn(PieceError):
    """Two rows that draw another web."""

    def __init__(self, web):
        self.web = web


class NotFormula(PieceError):
    """What is no formula of the size."""

    def __init__(self, error):
        self.error = error


class NoFormula(PieceError):
    """A table that no formula tells."""

    def __init__(self, lot):
        self.lot = lot


class NotOrder(PieceError):
    """A table that is no order."""

    def __init__(self, lot):
        self.lot = lot


class NotKeeping(PieceError):
    """A row that does not keep the order."""

    def __init__(self, pair):
        self.pair = pair


class NotSame(PieceError):
    """A naming that is no same of the table."""

    def __init__(self, naming):
        self.naming = naming


class NotEven(PieceError):
    """A table that is not even."""

    def __init__(self, pair):
        self.pair = pair


class HasTriangle(PieceError):
    """A table that has a triangle."""

    def __init__(self, lot):
        self.lot = lot


class NotTable(PieceError):
    """What is no table."""

    def __init__(self, error):
        self.error = error


class NotThing(PieceError):
    """What is no thing of the table."""

    def __init__(self, value):
        self.value = value


class NotLot(PieceError):
    """What is no lot of the size."""

    def __init__(self, value):
        self.value = value


class BadLooks(PieceError):
    """What is no look, or no tuple of as many looks as it takes."""


class BadNaming(PieceError):
    """What is no naming of the things."""


class BadBatch(PieceError):
    """What is no tuple of edits."""


class Rejected(PieceError):
    """An edit of a batch that raises an error."""

    def __init__(self, index):
        self.index = index


class TooManyEdits(PieceError):
    """As many edits stand as can."""


class NothingToUndo(PieceError):
    """No edit stands."""


class NothingToRedo(PieceError):
    """No edit is taken back and not done again."""


class NoVersion(PieceError):
    """What is no version of the board."""

    def __init__(self, given):
        self.given = given


class Split(PieceError):
    """A table that is not firm, where it has to be."""

    def __init__(self, paper):
        self.paper = paper
