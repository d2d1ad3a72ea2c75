"""Runs: decomposed forms as runs of marks with bases between them, and where the runs of a part fit."""

from canontext.forms import split_form
from canontext.tables import Table


def runs_of(table, form):
    """Return the list of the runs of a decomposed form as tuples (base, marks).

    The base stands in front of the run; that of the first run is the empty string. The marks are a dict
    that maps classes, in ascending order, to the marks of this class in the run.
    """
    blocks = split_form(table, form)
    first = ("", marks_by_class(table, blocks[0]))
    return [first] + [(block[0], marks_by_class(table, block[1:])) for block in blocks[1:]]


def marks_by_class(table, marks):
    """Return a dict that maps the classes of sorted marks to the marks of each class."""
    found = {}
    for mark in marks:
        rank = table.class_of(mark)
        found[rank] = found.get(rank, "") + mark
    return found


def joined(runs):
    """Return the form that consists of runs and the bases in front of them."""
    return "".join([base + "".join(list(marks.values())) for base, marks in runs])


def fits(marks, wanted, number, last):
    """Return whether the marks of one class of a run of a part fit those of a run.

    The runs of the part have the numbers from 0 to `last`, and this one has `number`.
    """
    if last == 0:
        return wanted in marks
    if number == 0:
        return marks.endswith(wanted)
    if number == last:
        return marks.startswith(wanted)
    return marks == wanted


def misfit(runs, part, start, number):
    """Return the lowest class at which a run of a part does not fit, if the first one is at `start`, or None."""
    marks = runs[start + number][1]
    wanted = part[number][1]
    for rank in range(1, Table.MAX_CLASS + 1):
        if not fits(marks.get(rank, ""), wanted.get(rank, ""), number, len(part) - 1):
            return rank
    return None


def why_not(runs, part, start):
    """Return the first tuple that says why a part does not occur from the run `start` on, or None if it does."""
    if start + len(part) > len(runs):
        return start, "short"
    for number in range(1, len(part)):
        if runs[start + number][0] != part[number][0]:
            return start, "base", number
    for number in range(len(part)):
        rank = misfit(runs, part, start, number)
        if rank is not None:
            return start, "run", number, rank
    return None


def offsets(marks, wanted):
    """Return the list of the indices at which some marks stand among others as neighbors."""
    return [at for at in range(len(marks) - len(wanted) + 1) if marks[at:at + len(wanted)] == wanted]
