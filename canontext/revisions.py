"""Revisions of tables: whether composed forms are kept, and spelling with some characters alone."""

from canontext.characters import in_order, is_text
from canontext.checks import check_table
from canontext.composing import composed_form, formed
from canontext.errors import InvalidCharacters, NotExtended
from canontext.rests import form_rests
from canontext.soundness import check_sound, check_texts, decomposed_form
from canontext.variants import numbered_steps


def extends(new, old):
    """Return whether a table has all characters of another one as they are there."""
    check_table(new)
    check_table(old)
    return all([character in new and is_kept(new, old, character) for character in old.characters])


def is_kept(new, old, character):
    """Return whether a character is the same in two tables that have it."""
    return (
        new.class_of(character) == old.class_of(character)
        and new.decomposition(character) == old.decomposition(character)
        and (character in new.excluded) == (character in old.excluded)
    )


def changed_text(new, old):
    """Return None if all texts keep their composed forms in a new table, otherwise a text that does not."""
    check_revision(new, old)
    for character in formed(new):
        atoms = new.atoms(character)
        if character not in old and is_text(atoms, old.characters):
            return atoms
    return None


def is_changed_text(new, old, value):
    """Return whether any value is a text over the old table whose composed forms differ."""
    check_revision(new, old)
    return is_text(value, old.characters) and composed_form(new, value) != composed_form(old, value)


def check_revision(new, old):
    """Raise an error unless a table is sound and extends another one."""
    if not extends(new, old):
        raise NotExtended(new, old)
    check_sound(new)


def spelled(table, text, characters):
    """Return the first variant of a text, in order, that consists of some characters alone, or None."""
    check_texts(table, [text])
    check_characters(table, characters)
    return spelled_form(table, decomposed_form(table, text), in_order(characters))


def unspelled(table, characters):
    """Return the first character, in order, that has no variant of some characters alone, or None."""
    check_sound(table)
    check_characters(table, characters)
    ordered = in_order(characters)
    for character in table.characters:
        if spelled_form(table, decomposed_form(table, character), ordered) is None:
            return character
    return None


def check_characters(table, characters):
    """Raise InvalidCharacters unless a value is a string of distinct characters of the table."""
    if not is_text(characters, table.characters) or len(in_order(characters)) != len(characters):
        raise InvalidCharacters(characters)


def spelled_form(table, form, characters):
    """Return the first variant of a decomposed form that consists of characters in ascending order alone, or None."""
    steps = numbered_steps(table, form_rests(table, form), characters)
    last = len(steps) - 1
    # Whether each rest has such a variant.
    spells = [False] * last + [True]
    for number in reversed(range(last)):
        spells[number] = any([spells[after] for after in steps[number].values()])
    if not spells[0]:
        return None
    found = []
    number = 0
    while number != last:
        for character, after in steps[number].items():
            if spells[after]:
                break
        found.append(character)
        number = after
    return "".join(found)
