"""Rests: the decomposed forms of what stands behind a beginning of some variant of a text."""

from canontext.errors import TooMany
from canontext.forms import split_form
from canontext.soundness import check_texts, decomposed_form, table_atoms

MAX_RESTS = 2000


def rest_after(table, text, beginning):
    """Return the rest of a text behind a beginning of its variants, or None if none begins so."""
    check_texts(table, [text, beginning])
    return form_behind(decomposed_form(table, text), decomposed_form(table, beginning), passed_marks(table))


def beginnings(table, text):
    """Return the string of the characters with which variants of a text begin, in ascending order."""
    check_texts(table, [text])
    form = decomposed_form(table, text)
    return "".join(forms_behind(form, full_decompositions(table, table.characters), passed_marks(table)))


def rest_count(table, text):
    """Return the number of rests of a text."""
    check_texts(table, [text])
    return form_rest_count(table, decomposed_form(table, text))


def rests(table, text):
    """Return the list of all rests of a text: longer ones first, those of equal length in order."""
    check_texts(table, [text])
    return form_rests(table, decomposed_form(table, text))


def form_rest_count(table, form):
    """Return the number of rests of a decomposed form."""
    return sum([block_rest_count(table, block) for block in split_form(table, form)])


def block_rest_count(table, block):
    """Return the number of ways to take away marks of a block, the first ones of each class."""
    marks = [table.class_of(atom) for atom in block if table.class_of(atom) > 0]
    ways = 1
    for rank in sorted(set(marks)):
        ways = ways * (1 + marks.count(rank))
    return ways


def check_rest_count(table, form):
    """Raise TooMany for a decomposed form that has more than 2,000 rests."""
    total = form_rest_count(table, form)
    if total > MAX_RESTS:
        raise TooMany(total)


def form_rests(table, form):
    """Return the list of all rests of a decomposed form in their order; raises TooMany."""
    check_rest_count(table, form)
    passed = passed_marks(table)
    decompositions = full_decompositions(table, table_atoms(table))
    found = []
    # Each level has all rests of one length: those of the last level without one more atom.
    level = [form]
    while level:
        found.extend(level)
        level = sorted({rest for longer in level for rest in forms_behind(longer, decompositions, passed).values()})
    return found


def full_decompositions(table, characters):
    """Return a dict that maps characters to their full decompositions."""
    return {character: table.atoms(character) for character in characters}


def passed_marks(table):
    """Return a dict that maps each character to the marks in a decomposed form that it can pass to the front."""
    # An atom passes no base and no mark of its own class, and marks of higher classes stand behind it.
    ranks = {mark: table.class_of(mark) for mark in table.marks}
    return {
        character: "".join([mark for mark in ranks if ranks[mark] < table.class_of(character)])
        for character in table.characters
    }


def forms_behind(form, decompositions, passed):
    """Return a dict that maps characters to the rests of a decomposed form behind them, if there are any."""
    found = {}
    for character, atoms in decompositions.items():
        rest = form_behind(form, atoms, passed)
        if rest is not None:
            found[character] = rest
    return found


def form_behind(form, atoms, passed):
    """Return the rest of a decomposed form behind atoms, or None if it has none."""
    rest = form
    for atom in atoms:
        behind = rest.lstrip(passed[atom])
        if not behind.startswith(atom):
            return None
        rest = rest[:len(rest) - len(behind)] + behind[1:]
    return rest
