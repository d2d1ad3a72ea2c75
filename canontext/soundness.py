"""The rules of a table, decomposed forms, and whether a table is sound."""

from canontext.checks import check_table, check_text
from canontext.errors import Unsound


def rules(table):
    """Return the list of all rules: the decompositions, then the exchanges of two marks."""
    check_table(table)
    decompositions = [(composite, table.decomposition(composite)) for composite in table.composites]
    return decompositions + [(first + second, second + first) for first, second in exchanges(table)]


def exchanges(table):
    """Return the list of all pairs of marks of different classes, the smaller mark first."""
    marks = table.marks
    pairs = [(first, second) for first in marks for second in marks if first < second]
    return [(first, second) for first, second in pairs if may_change_places(table, first, second)]


def may_change_places(table, first, second):
    """Return whether two characters of the table are marks of different classes."""
    classes = (table.class_of(first), table.class_of(second))
    return 0 not in classes and classes[0] != classes[1]


def is_step(table, first, second):
    """Return whether one step leads from one text to another one."""
    check_table(table)
    check_text(table, first)
    check_text(table, second)
    return is_one_step(table, first, second)


def is_one_step(table, first, second):
    """Return whether one step leads from one text over the table to another one, of any lengths."""
    # The sides of a rule begin with different characters: no composite occurs in its own
    # decomposition. So a step begins exactly where the texts begin to differ.
    start = common_length(first, second)
    one = first[start:]
    other = second[start:]
    if one == "" or other == "":
        return False
    return (
        begins_decomposed(table, one, other)
        or begins_decomposed(table, other, one)
        or begins_exchanged(table, one, other)
    )


def common_length(first, second):
    """Return the length of the longest string with which two strings begin."""
    length = 0
    while length < min(len(first), len(second)) and first[length] == second[length]:
        length += 1
    return length


def begins_decomposed(table, one, other):
    """Return whether decomposing the first character of a text gives another text."""
    parts = table.decomposition(one[0])
    return parts is not None and parts + one[1:] == other


def begins_exchanged(table, one, other):
    """Return whether exchanging two marks at the beginning of a text gives another text."""
    if len(one) < 2 or one[1] + one[0] + one[2:] != other:
        return False
    return may_change_places(table, one[0], one[1])


def judge(table):
    """Return None if the table is sound, otherwise the first two marks that show that it is not."""
    check_table(table)
    for first, second in exchanges(table):
        if order_matters(table, first, second):
            return first, second
    return None


def check_sound(table):
    """Raise InvalidTable for any value that is not a table, and Unsound for a table that is not sound."""
    pair = judge(table)
    if pair is not None:
        raise Unsound(pair[0], pair[1])


def check_texts(table, texts):
    """Raise the errors of each function over sound tables that takes these texts."""
    check_sound(table)
    for text in texts:
        check_text(table, text)


def is_unsound_pair(table, value):
    """Return whether any value is a tuple of two marks that show that the table is not sound."""
    check_table(table)
    if not isinstance(value, tuple) or len(value) != 2:
        return False
    first, second = value
    if first not in table or second not in table:
        return False
    return may_change_places(table, first, second) and order_matters(table, first, second)


def order_matters(table, first, second):
    """Return whether the two orders of two characters have different decomposed forms."""
    return decomposed_form(table, first + second) != decomposed_form(table, second + first)


def table_atoms(table):
    """Return the string of the atoms of a table, in ascending order."""
    return "".join([character for character in table.characters if table.decomposition(character) is None])


def decomposed(table, text):
    """Return the decomposed form of a text; the table need not be sound."""
    check_table(table)
    check_text(table, text)
    return decomposed_form(table, text)


def decomposed_form(table, text):
    """Return the decomposed form of a text over the table, of any length."""
    atoms = "".join([table.atoms(character) for character in text])
    places = []
    block = 0
    for index, atom in enumerate(atoms):
        rank = table.class_of(atom)
        # A base has the least class, so it stays in front of the marks behind it.
        if rank == 0:
            block += 1
        places.append((block, rank, index))
    return "".join([atoms[place[2]] for place in sorted(places)])
