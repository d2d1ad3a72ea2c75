"""Equivalent texts: blocks of decomposed forms, where two forms differ, and paths between texts."""

from canontext.characters import is_text
from canontext.errors import TooMany
from canontext.soundness import check_texts, common_length, decomposed_form, is_one_step

# A path between longer forms would have too many texts.
MAX_PATH_ATOMS = 60


def blocks(table, text):
    """Return the list of the blocks of a text: the marks in front, then each base with its marks."""
    check_texts(table, [text])
    return split_form(table, decomposed_form(table, text))


def split_form(table, form):
    """Return the list of the blocks of a decomposed form."""
    found = [""]
    for atom in form:
        if table.class_of(atom) == 0:
            found.append(atom)
        else:
            found[-1] = found[-1] + atom
    return found


def are_equivalent(table, one, other):
    """Return whether two texts are equivalent."""
    return first_difference(table, one, other) is None


def first_difference(table, one, other):
    """Return None for equivalent texts, otherwise (index, first, second) where their forms differ."""
    check_texts(table, [one, other])
    first = decomposed_form(table, one)
    second = decomposed_form(table, other)
    if first == second:
        return None
    index = common_length(first, second)
    return index, first[index:index + 1], second[index:index + 1]


def path_between(table, one, other):
    """Return a list of texts in which steps lead from one text to the other, or None if none do."""
    check_texts(table, [one, other])
    first = decomposed_form(table, one)
    second = decomposed_form(table, other)
    for form in (first, second):
        if len(form) > MAX_PATH_ATOMS:
            raise TooMany(len(form))
    if first != second:
        return None
    return path_to_form(table, one) + path_to_form(table, other)[:-1][::-1]


def path_to_form(table, text):
    """Return a path from a text to its decomposed form."""
    path = [text]
    at = 0
    # What stands in front of the index is a decomposed form already.
    while at < len(text):
        parts = table.decomposition(text[at])
        if parts is not None:
            text = text[:at] + parts + text[at + 1:]
            path.append(text)
        elif at > 0 and table.class_of(text[at - 1]) > table.class_of(text[at]) > 0:
            text = text[:at - 1] + text[at] + text[at - 1] + text[at + 1:]
            path.append(text)
            at -= 1
        else:
            at += 1
    return path


def is_path(table, one, other, value):
    """Return whether any value is a path from one text to the other."""
    check_texts(table, [one, other])
    if not isinstance(value, (list, tuple)) or len(value) == 0:
        return False
    if value[0] != one or value[-1] != other:
        return False
    # Item by item, so that long texts to which no step leads are not gone through.
    for first, second in zip(value, value[1:]):
        if not is_text(second, table.characters) or not is_one_step(table, first, second):
            return False
    return True
