"""The errors of the package, each directly below one of three base classes.

Each of them keeps the very values that it was created with, as attributes.
"""


class TextError(ValueError):
    """A value is invalid."""


class Absent(LookupError):
    """A thing does not exist."""


class NotSound(ArithmeticError):
    """A table is not sound."""


class InvalidCharacter(TextError):
    """Not a character."""

    def __init__(self, value):
        super().__init__("not a character")
        self.value = value


class InvalidClass(TextError):
    """Not a class, or not a dict of classes."""

    def __init__(self, value):
        super().__init__("not a class, or not a dict of classes")
        self.value = value


class InvalidDecomposition(TextError):
    """Not a decomposition, or not a dict of decompositions."""

    def __init__(self, value):
        super().__init__("not a decomposition, or not a dict of decompositions")
        self.value = value


class InvalidExclusion(TextError):
    """Not a composite, or not a string of composites."""

    def __init__(self, value):
        super().__init__("not a composite, or not a string of composites")
        self.value = value


class Cyclic(TextError):
    """A composite that occurs when it is decomposed."""

    def __init__(self, value):
        super().__init__("a composite that occurs when it is decomposed")
        self.value = value


class Mixed(TextError):
    """A base that begins with a mark, or a mark that begins with a base."""

    def __init__(self, value):
        super().__init__("a base that begins with a mark, or a mark that begins with a base")
        self.value = value


class Ambiguous(TextError):
    """Two composites that are not excluded have one decomposition."""

    def __init__(self, first, second):
        super().__init__("two composites that are not excluded have one decomposition")
        self.first = first
        self.second = second


class InvalidTable(TextError):
    """Not a table."""

    def __init__(self, value):
        super().__init__("not a table")
        self.value = value


class InvalidText(TextError):
    """Not a text, or too long a text."""

    def __init__(self, value):
        super().__init__("not a text, or too long a text")
        self.value = value


class InvalidLine(TextError):
    """Not a line of a table."""

    def __init__(self, position):
        super().__init__("not a line of a table")
        self.position = position


class InvalidInteger(TextError):
    """Not an integer that is expected here."""

    def __init__(self, value):
        super().__init__("not an integer that is expected here")
        self.value = value


class InvalidRange(TextError):
    """Not a range of indices."""

    def __init__(self, value):
        super().__init__("not a range of indices")
        self.value = value


class InvalidChoice(TextError):
    """Neither True nor False."""

    def __init__(self, value):
        super().__init__("neither True nor False")
        self.value = value


class InvalidSyntax(TextError):
    """Not a pattern from this position on."""

    def __init__(self, position):
        super().__init__("not a pattern from this position on")
        self.position = position


class InvalidPattern(TextError):
    """Not a pattern."""

    def __init__(self, value):
        super().__init__("not a pattern")
        self.value = value


class InvalidImages(TextError):
    """Not a dict of images."""

    def __init__(self, value):
        super().__init__("not a dict of images")
        self.value = value


class InvalidMapping(TextError):
    """Not a mapping."""

    def __init__(self, value):
        super().__init__("not a mapping")
        self.value = value


class InvalidCharacters(TextError):
    """Not a string of distinct characters of the table."""

    def __init__(self, value):
        super().__init__("not a string of distinct characters of the table")
        self.value = value


class Mismatch(TextError):
    """Two mappings that do not fit."""

    def __init__(self, first, second):
        super().__init__("two mappings that do not fit")
        self.first = first
        self.second = second


class NotExtended(TextError):
    """A table that does not extend the other one."""

    def __init__(self, new, old):
        super().__init__("a table that does not extend the other one")
        self.new = new
        self.old = old


class InvalidCommand(TextError):
    """Not a command."""

    def __init__(self, value):
        super().__init__("not a command")
        self.value = value


class TooMany(TextError):
    """A number that is outside of its limits."""

    def __init__(self, total):
        super().__init__("a number that is outside of its limits")
        self.total = total


class UnknownCharacter(Absent):
    """Not a character of the table."""

    def __init__(self, value):
        super().__init__("not a character of the table")
        self.value = value


class UnknownIndex(Absent):
    """Not an index that exists."""

    def __init__(self, value):
        super().__init__("not an index that exists")
        self.value = value


class NoVariant(Absent):
    """Not a variant."""

    def __init__(self, value):
        super().__init__("not a variant")
        self.value = value


class NothingToUndo(Absent):
    """Nothing to undo."""

    def __init__(self):
        super().__init__("nothing to undo")


class NothingToRedo(Absent):
    """Nothing to redo."""

    def __init__(self):
        super().__init__("nothing to redo")


class Closed(Absent):
    """The stream is closed."""

    def __init__(self):
        super().__init__("the stream is closed")


class Unsound(NotSound):
    """Two marks whose order changes the decomposed form."""

    def __init__(self, first, second):
        super().__init__("two marks whose order changes the decomposed form")
        self.first = first
        self.second = second
