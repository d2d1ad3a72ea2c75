"""Composed forms: atoms are combined to composites again, as far as the table lets them."""

from canontext.soundness import check_sound, check_texts, decomposed_form


def composed(table, text):
    """Return the composed form of a text."""
    check_texts(table, [text])
    return composed_form(table, text)


def is_composed(table, text):
    """Return whether a text is its own composed form."""
    check_texts(table, [text])
    return composed_form(table, text) == text


def formed(table):
    """Return the string of all characters that occur in composed forms, in ascending order."""
    check_sound(table)
    return "".join([character for character in table.characters if composed_form(table, character) == character])


def composed_form(table, text):
    """Return the composed form of a text over the table, of any length."""
    result = []
    base = None
    for atom in decomposed_form(table, text):
        composite = None
        if base is not None and not is_blocked(table, result, base, atom):
            composite = table.composite_of(result[base], atom)
        if composite is not None:
            result[base] = composite
            continue
        if table.class_of(atom) == 0:
            base = len(result)
        result.append(atom)
    return "".join(result)


def is_blocked(table, result, base, atom):
    """Return whether what stands behind the last base, at an index, keeps an atom from being combined with it."""
    return base < len(result) - 1 and table.class_of(result[-1]) >= table.class_of(atom)
