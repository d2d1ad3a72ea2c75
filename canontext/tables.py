"""Tables: the characters that exist, how they decompose, and which composites are excluded."""

from canontext.characters import in_order, is_character, is_text
from canontext.errors import Ambiguous, Cyclic, InvalidClass, InvalidDecomposition, InvalidExclusion
from canontext.errors import InvalidLine, InvalidText, Mixed, TooMany, UnknownCharacter
from canontext.integers import is_between

DIGITS = "0123456789"


class Table:
    """Characters with their classes, decompositions and exclusions; a table never changes."""

    MAX_CHARACTERS = 30
    MAX_CLASS = 9
    MAX_ATOMS = 8

    def __init__(self, classes, *, decompositions=None, excluded=""):
        if decompositions is None:
            decompositions = {}
        check_classes(classes)
        check_decompositions(decompositions, classes)
        check_acyclic(decompositions)
        check_atom_counts(decompositions)
        check_beginnings(classes, decompositions)
        check_excluded(excluded, decompositions)
        check_unambiguous(decompositions, excluded)
        self._characters = in_order("".join(classes))
        self._classes = {character: classes[character] for character in self._characters}
        self._decompositions = {composite: decompositions[composite] for composite in sorted(decompositions)}
        self._excluded = in_order(excluded)
        self._atoms = {character: full_decomposition(character, decompositions) for character in self._characters}
        self._pairs = {decompositions[composite]: composite for composite in paired(decompositions, excluded)}

    @property
    def characters(self):
        """All characters, in ascending order."""
        return self._characters

    @property
    def bases(self):
        """The characters of class 0, in ascending order."""
        return "".join([character for character in self._characters if self._classes[character] == 0])

    @property
    def marks(self):
        """The characters of the other classes, in ascending order."""
        return "".join([character for character in self._characters if self._classes[character] != 0])

    @property
    def composites(self):
        """The characters that have a decomposition, in ascending order."""
        return "".join(self._decompositions)

    @property
    def excluded(self):
        """The excluded composites, each once, in ascending order."""
        return self._excluded

    def class_of(self, character):
        """Return the class of a character."""
        self.check_known(character)
        return self._classes[character]

    def decomposition(self, character):
        """Return the decomposition of a composite, or None for an atom."""
        self.check_known(character)
        return self._decompositions.get(character)

    def atoms(self, character):
        """Return the full decomposition of a character."""
        self.check_known(character)
        return self._atoms[character]

    def composite_of(self, first, second):
        """Return the composite that two characters form if it is not excluded, or None."""
        self.check_known(first)
        self.check_known(second)
        return self._pairs.get(first + second)

    def check_known(self, character):
        """Raise UnknownCharacter for any value that is not a character of the table."""
        if character not in self:
            raise UnknownCharacter(character)

    def __contains__(self, value):
        # A value that is no string may not be a key of a dict at all.
        return is_character(value) and value in self._classes

    def __len__(self):
        return len(self._characters)

    def __eq__(self, other):
        return (
            isinstance(other, Table)
            and self._classes == other._classes
            and self._decompositions == other._decompositions
            and self._excluded == other._excluded
        )

    def __str__(self):
        return "\n".join([self.line_of(character) for character in self._characters])

    def line_of(self, character):
        """Return the line that describes a character of the table."""
        line = f"{character} {self._classes[character]}"
        if character in self._decompositions:
            line = f"{line} = {self._decompositions[character]}"
        if character in self._excluded:
            line = f"{line} excluded"
        return line

    @classmethod
    def from_text(cls, text):
        """Return the table that a string describes, one line for each character."""
        if not isinstance(text, str):
            raise InvalidText(text)
        classes = {}
        decompositions = {}
        excluded = []
        for position, line in enumerate(text.split("\n")):
            words = line.split(" ")
            if not is_line(words) or words[0] in classes:
                raise InvalidLine(position)
            classes[words[0]] = int(words[1])
            if len(words) > 2:
                decompositions[words[0]] = words[3]
            if len(words) > 4:
                excluded.append(words[0])
        return cls(classes, decompositions=decompositions, excluded="".join(excluded))


def is_line(words):
    """Return whether words are those of a line that describes a character."""
    # Two blanks together, or one at an end, leave an empty word.
    if "" in words or len(words) not in (2, 4, 5):
        return False
    if not is_character(words[0]) or len(words[1]) != 1 or words[1] not in DIGITS:
        return False
    if len(words) > 2 and words[2] != "=":
        return False
    return len(words) < 5 or words[4] == "excluded"


def check_classes(classes):
    """Raise an error unless a value is a dict of 1 to 30 characters with classes."""
    if not isinstance(classes, dict) or not all([is_character(key) for key in classes]):
        raise InvalidClass(classes)
    if not 1 <= len(classes) <= Table.MAX_CHARACTERS:
        raise TooMany(len(classes))
    for character in sorted(classes):
        if not is_between(classes[character], 0, Table.MAX_CLASS):
            raise InvalidClass(classes[character])


def check_decompositions(decompositions, classes):
    """Raise an error unless a value is a dict of characters with one or two characters each."""
    if not isinstance(decompositions, dict) or not all([key in classes for key in decompositions]):
        raise InvalidDecomposition(decompositions)
    characters = "".join(classes)
    for composite in sorted(decompositions):
        parts = decompositions[composite]
        if not is_text(parts, characters) or not 1 <= len(parts) <= 2:
            raise InvalidDecomposition(parts)


def check_acyclic(decompositions):
    """Raise Cyclic for the first composite that occurs when it is decomposed again and again."""
    for composite in sorted(decompositions):
        if composite in reached_from(composite, decompositions):
            raise Cyclic(composite)


def reached_from(character, decompositions):
    """Return the list of all characters that occur when a character is decomposed again and again."""
    reached = []
    waiting = [character]
    while waiting:
        current = waiting.pop()
        for part in decompositions.get(current, ""):
            if part not in reached:
                reached.append(part)
                waiting.append(part)
    return reached


def check_atom_counts(decompositions):
    """Raise TooMany for the first composite of more than 8 atoms."""
    counts = {}
    for composite in sorted(decompositions):
        total = count_atoms(composite, decompositions, counts)
        if total > Table.MAX_ATOMS:
            raise TooMany(total)


def count_atoms(character, decompositions, counts):
    """Return the number of atoms of a character; the dict keeps the numbers that are known."""
    if character not in decompositions:
        return 1
    # The atoms may be far too many to be written out, or to be counted one by one.
    if character not in counts:
        counts[character] = sum([count_atoms(part, decompositions, counts) for part in decompositions[character]])
    return counts[character]


def full_decomposition(character, decompositions):
    """Return the string of the atoms of a character."""
    if character not in decompositions:
        return character
    return "".join([full_decomposition(part, decompositions) for part in decompositions[character]])


def check_beginnings(classes, decompositions):
    """Raise Mixed for the first base that begins with a mark, or mark that begins with a base."""
    for composite in sorted(decompositions):
        beginning = full_decomposition(composite, decompositions)[0]
        if (classes[composite] == 0) != (classes[beginning] == 0):
            raise Mixed(composite)


def check_excluded(excluded, decompositions):
    """Raise InvalidExclusion unless a value is a string of composites."""
    if not isinstance(excluded, str):
        raise InvalidExclusion(excluded)
    for character in excluded:
        if character not in decompositions:
            raise InvalidExclusion(character)


def check_unambiguous(decompositions, excluded):
    """Raise Ambiguous for the first composite that forms from the same two characters as a later one."""
    composites = paired(decompositions, excluded)
    for index, first in enumerate(composites):
        for second in composites[index + 1:]:
            if decompositions[first] == decompositions[second]:
                raise Ambiguous(first, second)


def paired(decompositions, excluded):
    """Return the list of the composites of two characters that are not excluded, in ascending order."""
    composites = sorted(decompositions)
    return [composite for composite in composites if composite not in excluded and len(decompositions[composite]) == 2]
