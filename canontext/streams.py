"""Streams: a text is read piece by piece, and its form is returned piece by piece."""

from canontext.checks import check_choice, check_text
from canontext.errors import Closed, InvalidText
from canontext.soundness import check_sound
from canontext.tails import Tail


class Stream:
    """Returns each character of the form of a text as soon as nothing that follows can change it."""

    def __init__(self, table, *, composed=True):
        check_sound(table)
        check_choice(composed)
        self._table = table
        self._tail = Tail(table, composed)
        # How many characters of the tail were returned.
        self._passed = 0
        self._given = []
        self._pieces = []
        self._closed = False

    def __call__(self, piece):
        self.check_not_closed()
        check_text(self._table, piece)
        self._given.append(piece)
        found = []
        for character in piece:
            for atom in self._table.atoms(character):
                settled = self._tail.take(atom)
                if settled:
                    found.extend(settled[self._passed:])
                    self._passed = 0
        final = self._tail.final_from(self._passed)
        self._passed = self._passed + len(final)
        self._pieces.append("".join(found + final))
        return self._pieces[-1]

    def check_not_closed(self):
        """Raise Closed if the stream is closed."""
        if self._closed:
            raise Closed()

    @property
    def given(self):
        """The text that was read so far."""
        return "".join(self._given)

    @property
    def held(self):
        """What the form of the text has behind what was returned."""
        if self._closed:
            return ""
        return "".join(self._tail.letters_from(self._passed))

    @property
    def pieces(self):
        """The list of all strings that were returned, in order."""
        return list(self._pieces)

    @property
    def closed(self):
        """Whether the stream is closed."""
        return self._closed

    def changer(self):
        """Return the first character that would change the first one that is held, or None if none is."""
        self.check_not_closed()
        held = self.held
        if held == "":
            return None
        return self._tail.first_changer(held[0])

    def close(self):
        """Return what is held and close the stream."""
        self.check_not_closed()
        self._pieces.append(self.held)
        self._closed = True
        return self._pieces[-1]


def streamed(table, pieces, *, composed=True):
    """Return the list of what a new stream returns for pieces, and for being closed."""
    stream = Stream(table, composed=composed)
    if not isinstance(pieces, (list, tuple)):
        raise InvalidText(pieces)
    return [stream(piece) for piece in pieces] + [stream.close()]
