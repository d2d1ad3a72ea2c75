"""The answers of a console: the outputs of the commands that change nothing."""

from canontext.composing import composed, formed
from canontext.forms import first_difference
from canontext.matching import some_variant
from canontext.patterns import Pattern, closure_gap
from canontext.revisions import spelled, unspelled
from canontext.search import absence, occurrences
from canontext.soundness import decomposed
from canontext.variants import Variants

NOTHING = "none"
BETWEEN = " / "


def shown(text):
    """Return how a text is written in an output."""
    if text == "":
        return "-"
    return text


def shown_or_none(text):
    """Return how a text, or None, is written in an output."""
    if text is None:
        return NOTHING
    return shown(text)


def shown_choice(choice):
    """Return how True or False is written in an output."""
    if choice:
        return "yes"
    return "no"


def tell_show(buffer, _):
    """Return the text and the form."""
    return f"{shown(buffer.text)} {shown(buffer.form)}"


def tell_rows(buffer, _):
    """Return the text of the table."""
    return str(buffer.table).replace("\n", BETWEEN)


def tell_change(buffer, _):
    """Return how the form was changed last."""
    if buffer.last_change is None:
        return NOTHING
    start, old, new = buffer.last_change
    return f"{start} {shown(old)} {shown(new)}"


def tell_forms(buffer, values):
    """Return the decomposed and the composed form of a text."""
    text = values[0]
    return f"{shown(decomposed(buffer.table, text))} {shown(composed(buffer.table, text))}"


def tell_same(buffer, values):
    """Return whether two texts are equivalent, and where their forms differ first if they are not."""
    found = first_difference(buffer.table, values[0], values[1])
    if found is None:
        return shown_choice(True)
    index, first, second = found
    return f"{shown_choice(False)} {index} {shown(first)} {shown(second)}"


def tell_count(buffer, _):
    """Return the number of variants."""
    return str(Variants(buffer.table, buffer.text).variant_count)


def tell_variant(buffer, values):
    """Return the variant with an index."""
    variants = Variants(buffer.table, buffer.text)
    return shown(variants[values[0]])


def tell_shortest(buffer, _):
    """Return a shortest variant."""
    return shown(Variants(buffer.table, buffer.text).shortest())


def tell_find(buffer, values):
    """Return the occurrences of a part."""
    pairs = occurrences(buffer.table, buffer.text, values[0])
    if not pairs:
        return NOTHING
    return BETWEEN.join([f"{shown(front)} {shown(behind)}" for front, behind in pairs])


def tell_lacks(buffer, values):
    """Return why a part does not occur."""
    reasons = absence(buffer.table, buffer.text, values[0])
    if reasons is None:
        return NOTHING
    return BETWEEN.join([" ".join([str(part) for part in reason]) for reason in reasons])


def tell_accepts(buffer, values):
    """Return whether a pattern accepts the text itself."""
    pattern = Pattern(buffer.table, values[0])
    return shown_choice(pattern(buffer.text))


def tell_match(buffer, values):
    """Return the first variant that a pattern accepts."""
    return shown_or_none(some_variant(Pattern(buffer.table, values[0]), buffer.text))


def tell_closed(buffer, values):
    """Return whether a pattern is closed."""
    return shown_choice(closure_gap(Pattern(buffer.table, values[0])) is None)


def tell_formed(buffer, _):
    """Return the characters that occur in composed forms."""
    return formed(buffer.table)


def tell_spell(buffer, values):
    """Return the first variant that consists of some characters."""
    return shown_or_none(spelled(buffer.table, buffer.text, values[0]))


def tell_unspelled(buffer, values):
    """Return the first character that has no variant of some characters."""
    return shown_or_none(unspelled(buffer.table, values[0]))


ANSWERS = {
    "show": tell_show,
    "rows": tell_rows,
    "change": tell_change,
    "forms": tell_forms,
    "same": tell_same,
    "count": tell_count,
    "variant": tell_variant,
    "shortest": tell_shortest,
    "find": tell_find,
    "lacks": tell_lacks,
    "accepts": tell_accepts,
    "match": tell_match,
    "closed": tell_closed,
    "formed": tell_formed,
    "spell": tell_spell,
    "unspelled": tell_unspelled,
}
