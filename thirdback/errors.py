"""The errors of the program.

Each class keeps what it is made with as it was passed. The attributes are set in each class
and not in a common one: an error belongs to its own class and the base class above it alone.
"""


class WrongValue(ValueError):
    """A value that is not of the form that is asked for."""


class InvalidName(WrongValue):
    """Not a name."""

    def __init__(self, given):
        self.given = given


class InvalidText(WrongValue):
    """Not the text of what is to be read."""

    def __init__(self, given):
        self.given = given


class InvalidFlag(WrongValue):
    """Neither True nor False."""

    def __init__(self, given):
        self.given = given


class InvalidNumber(WrongValue):
    """Not an integer within the limits."""

    def __init__(self, given):
        self.given = given


class InvalidTurns(WrongValue):
    """Not the name of a lot of turns."""

    def __init__(self, given):
        self.given = given


class InvalidTriple(WrongValue):
    """Not a triple of the form that is asked for."""

    def __init__(self, given):
        self.given = given


class InvalidIndex(WrongValue):
    """Not an index of what is asked for."""

    def __init__(self, given):
        self.given = given


class InvalidWish(WrongValue):
    """Not a wish of one of the four forms."""

    def __init__(self, given):
        self.given = given


class NotAKind(WrongValue):
    """Not a Kind."""

    def __init__(self, given):
        self.given = given


class NotAFormula(WrongValue):
    """Not a Formula."""

    def __init__(self, given):
        self.given = given


class NotABeginning(WrongValue):
    """Not a Beginning."""

    def __init__(self, given):
        self.given = given


class NotAScript(WrongValue):
    """Not a Script."""

    def __init__(self, given):
        self.given = given


class NotAStore(WrongValue):
    """Not a Store, or nothing that a book can hold."""

    def __init__(self, given):
        self.given = given


class NotACell(WrongValue):
    """Not a Cell."""

    def __init__(self, given):
        self.given = given


class NotLengths(WrongValue):
    """Not Lengths."""

    def __init__(self, given):
        self.given = given


class OtherKind(WrongValue):
    """Something of another kind than what it goes with."""

    def __init__(self, given):
        self.given = given


class InvalidFacts(WrongValue):
    """Not facts, from this index on."""

    def __init__(self, index):
        self.index = index


class InvalidFormulas(WrongValue):
    """Not a tuple of formulas, from this index on."""

    def __init__(self, index):
        self.index = index


class InvalidTriples(WrongValue):
    """Not a tuple of triples, from this index on."""

    def __init__(self, index):
        self.index = index


class InvalidContents(WrongValue):
    """Not contents, from this index on."""

    def __init__(self, index):
        self.index = index


class InvalidNames(WrongValue):
    """Not a tuple of names, from this index on."""

    def __init__(self, index):
        self.index = index


class InvalidRows(WrongValue):
    """Not the rows of a script or of a cell, from this index on."""

    def __init__(self, index):
        self.index = index


class InvalidBoxes(WrongValue):
    """Not the boxes of a store, from this index on."""

    def __init__(self, index):
        self.index = index


class InvalidLost(WrongValue):
    """Not lost things of a chain, from this index on."""

    def __init__(self, index):
        self.index = index


class InvalidChanges(WrongValue):
    """Not changes of a store, from this index on."""

    def __init__(self, index):
        self.index = index


class Clash(WrongValue):
    """The triple at this index clashes with those before it."""

    def __init__(self, index):
        self.index = index


class WrongName(LookupError):
    """A name under which there is nothing, or something that is in use."""


class UnknownName(WrongName):
    """There is nothing under this name."""

    def __init__(self, given):
        self.given = given


class InUse(WrongName):
    """The wish at this index needs what stands under the name."""

    def __init__(self, index):
        self.index = index


class NoAnswer(ArithmeticError):
    """Valid arguments to which there is no answer."""


class TooMany(NoAnswer):
    """There would be more than this limit."""

    def __init__(self, limit):
        self.limit = limit


class Lacking(NoAnswer):
    """The value of the row at this index is not known."""

    def __init__(self, index):
        self.index = index


class NotWhole(NoAnswer):
    """A beginning that is not whole."""

    def __init__(self, given):
        self.given = given


class NothingToUndo(NoAnswer):
    """There is nothing that can be taken back."""


class Broken(NoAnswer):
    """The wish at this index would not hold."""

    def __init__(self, index):
        self.index = index
