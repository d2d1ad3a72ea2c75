"""Search: where a part occurs in a text up to equivalence, why it does not, and replacing it."""

from canontext.checks import check_text
from canontext.errors import InvalidInteger, InvalidText, TooMany
from canontext.integers import is_between, is_integer
from canontext.runs import fits, joined, offsets, runs_of, why_not
from canontext.soundness import check_texts, decomposed_form
from canontext.tables import Table

MAX_OCCURRENCES = 2000


def occurrences(table, text, part):
    """Return the list of all occurrences of a part: tuples of what stands in front of it and behind it."""
    runs, wanted = checked_runs(table, text, part)
    total = all_ways(runs, wanted)
    if total > MAX_OCCURRENCES:
        raise TooMany(total)
    found = []
    for start in range(len(runs)):
        if why_not(runs, wanted, start) is None:
            found.extend(sorted([(len(pair[0]), pair) for pair in pairs_at(runs, wanted, start)]))
    return [pair for _, pair in found]


def occurrence_count(table, text, part):
    """Return the number of occurrences of a part."""
    runs, wanted = checked_runs(table, text, part)
    return all_ways(runs, wanted)


def occurs(table, text, part):
    """Return whether a part occurs in a text."""
    check_texts(table, [text, part])
    return form_occurs(table, decomposed_form(table, text), decomposed_form(table, part))


def absence(table, text, part):
    """Return None if a part occurs, otherwise a list that says for each run why it does not occur there."""
    runs, wanted = checked_runs(table, text, part)
    reasons = [why_not(runs, wanted, start) for start in range(len(runs))]
    if None in reasons:
        return None
    return reasons


def is_absence(table, text, part, value):
    """Return whether any value is a list that says for each run why a part does not occur there."""
    runs, wanted = checked_runs(table, text, part)
    if not isinstance(value, list) or len(value) != len(runs):
        return False
    if not all([is_reason(runs, wanted, reason) for reason in value]):
        return False
    return sorted([reason[0] for reason in value]) == list(range(len(runs)))


def replaced(table, text, part, other, *, limit=None):
    """Return the decomposed form of a text with parts replaced, one after another from the left."""
    check_texts(table, [text, part])
    if part == "":
        raise InvalidText(part)
    check_text(table, other)
    if limit is not None and (not is_integer(limit) or limit < 0):
        raise InvalidInteger(limit)
    wanted = runs_of(table, decomposed_form(table, part))
    rest = decomposed_form(table, text)
    kept = []
    while limit is None or len(kept) < limit:
        pair = first_occurrence(runs_of(table, rest), wanted)
        if pair is None:
            break
        kept.append(pair[0] + other)
        rest = pair[1]
    return decomposed_form(table, "".join(kept) + rest)


def checked_runs(table, text, part):
    """Return the runs of a text and of a part, after the checks of both."""
    check_texts(table, [text, part])
    return runs_of(table, decomposed_form(table, text)), runs_of(table, decomposed_form(table, part))


def form_occurs(table, form, part):
    """Return whether one decomposed form occurs in another one."""
    runs = runs_of(table, form)
    wanted = runs_of(table, part)
    return None in [why_not(runs, wanted, start) for start in range(len(runs))]


def all_ways(runs, wanted):
    """Return the number of all occurrences of a part."""
    return sum([ways_at(runs, wanted, start) for start in range(len(runs))])


def ways_at(runs, wanted, start):
    """Return the number of occurrences of a part from a run on."""
    if why_not(runs, wanted, start) is not None:
        return 0
    ways = 1
    # Only within a single run there is a choice.
    if len(wanted) == 1:
        for rank, marks in runs[start][1].items():
            ways = ways * len(offsets(marks, wanted[0][1].get(rank, "")))
    return ways


def pairs_at(runs, wanted, start):
    """Return the list of the occurrences of a part from a run on, where it occurs."""
    first, last = runs[start], runs[start + len(wanted) - 1]
    if len(wanted) > 1:
        pairs = [(marks_in_front(first[1], wanted[0][1]), marks_behind(last[1], wanted[-1][1]))]
    else:
        pairs = [("", "")]
        for rank, marks in first[1].items():
            piece = wanted[0][1].get(rank, "")
            pairs = [
                (front + marks[:at], behind + marks[at + len(piece):])
                for front, behind in pairs
                for at in offsets(marks, piece)
            ]
    return framed(runs, wanted, start, pairs)


def first_occurrence(runs, wanted):
    """Return the first occurrence of a part, or None if there is none."""
    for start in range(len(runs)):
        if why_not(runs, wanted, start) is None:
            return first_pair_at(runs, wanted, start)
    return None


def first_pair_at(runs, wanted, start):
    """Return the first occurrence of a part from a run on, where it occurs."""
    if len(wanted) > 1:
        return pairs_at(runs, wanted, start)[0]
    front = ""
    behind = ""
    # The least index in each class leaves the shortest text in front.
    for rank, marks in runs[start][1].items():
        piece = wanted[0][1].get(rank, "")
        at = marks.find(piece)
        front = front + marks[:at]
        behind = behind + marks[at + len(piece):]
    return framed(runs, wanted, start, [(front, behind)])[0]


def marks_in_front(marks, last):
    """Return the marks of a run without the last ones of each class."""
    return "".join([marks[rank][:len(marks[rank]) - len(last.get(rank, ""))] for rank in marks])


def marks_behind(marks, first):
    """Return the marks of a run without the first ones of each class."""
    return "".join([marks[rank][len(first.get(rank, "")):] for rank in marks])


def framed(runs, wanted, start, pairs):
    """Return a list of pairs of marks with what stands in front of the part and behind it around them."""
    front = joined(runs[:start]) + runs[start][0]
    behind = joined(runs[start + len(wanted):])
    return [(front + one, other + behind) for one, other in pairs]


def is_reason(runs, wanted, value):
    """Return whether any value is a tuple that says why a part does not occur from some run on."""
    if not isinstance(value, tuple) or len(value) < 2 or not is_between(value[0], 0, len(runs) - 1):
        return False
    start, word = value[:2]
    last = len(wanted) - 1
    if len(value) == 2:
        return word == "short" and start + last >= len(runs)
    number = value[2]
    if not is_between(number, 0, last) or start + number >= len(runs):
        return False
    base, marks = runs[start + number]
    if len(value) == 3:
        return word == "base" and number > 0 and base != wanted[number][0]
    rank = value[3]
    if len(value) > 4 or word != "run" or not is_between(rank, 1, Table.MAX_CLASS):
        return False
    return not fits(marks.get(rank, ""), wanted[number][1].get(rank, ""), number, last)
