"""Buffers: texts that are edited, with their forms."""

from canontext.checks import MAX_LENGTH, check_choice, check_text, is_text_over
from canontext.composing import composed_form
from canontext.errors import InvalidRange, NothingToRedo, NothingToUndo, TooMany, UnknownIndex
from canontext.integers import is_between
from canontext.rests import check_rest_count
from canontext.search import form_occurs
from canontext.soundness import check_texts, common_length, decomposed_form


class Buffer:
    """A text that is edited; edits can be taken back and done again."""

    def __init__(self, table, text="", *, composed=True):
        check_texts(table, [text])
        check_choice(composed)
        self._table = table
        self._composed = composed
        self._text = text
        self._form = self.form_of(text)
        self._last_change = None
        # The texts to which `undo` and `redo` lead, the next one last.
        self._before = []
        self._behind = []

    def form_of(self, text):
        """Return the form of a text that the buffer shows."""
        if self._composed:
            return composed_form(self._table, text)
        return decomposed_form(self._table, text)

    def edit(self, start, stop, text):
        """Replace the characters with the indices from `start` to `stop` - 1 by a text."""
        length = len(self._text)
        if not is_between(start, 0, length) or not is_between(stop, start, length):
            raise InvalidRange((start, stop))
        check_text(self._table, text)
        total = length - (stop - start) + len(text)
        if total > MAX_LENGTH:
            raise TooMany(total)
        edited = self._text[:start] + text + self._text[stop:]
        if edited != self._text:
            self._before.append(self._text)
            self._behind = []
            self.become(edited)

    def put(self, index, text):
        """Put a text in front of the character with an index."""
        self.edit(index, index, text)

    def cut(self, start, stop):
        """Take away the characters with the indices from `start` to `stop` - 1."""
        self.edit(start, stop, "")

    def undo(self):
        """Take back the last edit that has not been taken back."""
        if not self._before:
            raise NothingToUndo()
        self._behind.append(self._text)
        self.become(self._before.pop())

    def redo(self):
        """Do the edit again that was taken back last."""
        if not self._behind:
            raise NothingToRedo()
        self._before.append(self._text)
        self.become(self._behind.pop())

    def become(self, text):
        """Take another text, and keep how this changes the form."""
        form = self.form_of(text)
        self._last_change = change_between(self._form, form)
        self._text = text
        self._form = form

    def duplicate(self):
        """Return another buffer in the same state."""
        other = Buffer(self._table, self._text, composed=self._composed)
        other._last_change = self._last_change
        other._before = list(self._before)
        other._behind = list(self._behind)
        return other

    @property
    def table(self):
        """The table."""
        return self._table

    @property
    def text(self):
        """The text."""
        return self._text

    @property
    def form(self):
        """The composed form of the text, or its decomposed form."""
        return self._form

    @property
    def last_change(self):
        """How the form was changed last: a tuple (start, old, new), or None before the first edit."""
        return self._last_change

    def __len__(self):
        return len(self._form)

    def __getitem__(self, index):
        if not is_between(index, 0, len(self._form) - 1):
            raise UnknownIndex(index)
        return self._form[index]

    def __iter__(self):
        raise TypeError("the characters of a buffer are gone through by its form")

    def __contains__(self, value):
        form = decomposed_form(self._table, self._text)
        check_rest_count(self._table, form)
        if not is_text_over(self._table, value):
            return False
        return form_occurs(self._table, form, decomposed_form(self._table, value))

    def __eq__(self, other):
        return (
            isinstance(other, Buffer)
            and self._table == other._table
            and decomposed_form(self._table, self._text) == decomposed_form(other._table, other._text)
        )


def change_between(before, after):
    """Return the tuple (start, old, new) of what differs between two forms."""
    start = common_length(before, after)
    old = before[start:]
    new = after[start:]
    kept = common_length(old[::-1], new[::-1])
    return start, old[:len(old) - kept], new[:len(new) - kept]
