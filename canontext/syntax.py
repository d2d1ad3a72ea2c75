"""The syntax of patterns: a pattern is read once, from the left, into its places.

A place stands for one character of a text. What a part of a pattern stands for is known by a tuple
(empty, first, last): whether the empty text is part of it, the places at which its texts can begin,
and those at which they can end. Sets of places are integers with one bit for each place.
"""

from canontext.errors import InvalidSyntax

MAX_PLACES = 8
MAX_DEPTH = 20

NO_PIECES = (True, 0, 0)


class PatternReader:
    """Reads a pattern over characters, and knows what its places match and which of them can follow each."""

    def __init__(self, characters, text):
        self._characters = characters
        self._text = text
        self._at = 0
        self._depth = 0
        self._matched = []
        self._follow = []

    def read(self):
        """Return what the whole pattern stands for; raises InvalidSyntax."""
        found = self.read_choice()
        # Only a closing bracket that was not opened stops before the end.
        if self._at < len(self._text):
            raise InvalidSyntax(self._at)
        return found

    def places_for(self, character):
        """Return the places that match a character."""
        return sum([1 << place for place, matched in enumerate(self._matched) if character in matched])

    def places_behind(self, places):
        """Return the places that can follow some places."""
        found = 0
        for place, behind in enumerate(self._follow):
            if places >> place & 1 == 1:
                found = found | behind
        return found

    def sees(self, signs):
        """Return whether the next character is one of some signs."""
        return self._at < len(self._text) and self._text[self._at] in signs

    def read_choice(self):
        """Read alternatives, up to what no alternative can go on with."""
        empty, first, last = self.read_alternative()
        while self.sees("|"):
            self._at += 1
            other = self.read_alternative()
            empty = empty or other[0]
            first = first | other[1]
            last = last | other[2]
        return empty, first, last

    def read_alternative(self):
        """Read a sequence of pieces."""
        empty, first, last = NO_PIECES
        while self._at < len(self._text) and not self.sees("|)"):
            piece = self.read_piece()
            self.link(last, piece[1])
            if empty:
                first = first | piece[1]
            if not piece[0]:
                empty = False
                last = 0
            last = last | piece[2]
        return empty, first, last

    def read_piece(self):
        """Read an item and the signs behind it."""
        empty, first, last = self.read_item()
        while self.sees("*+?"):
            if not self.sees("?"):
                self.link(last, first)
            if not self.sees("+"):
                empty = True
            self._at += 1
        return empty, first, last

    def read_item(self):
        """Read a place or a pattern in brackets."""
        if self.sees("("):
            return self.read_group()
        if not self.sees(self._characters) and not self.sees(".["):
            raise InvalidSyntax(self._at)
        if len(self._matched) == MAX_PLACES:
            raise InvalidSyntax(self._at)
        sign = self._text[self._at]
        self._at += 1
        matched = sign
        if sign == ".":
            matched = self._characters
        elif sign == "[":
            matched = self.read_listed()
        place = 1 << len(self._matched)
        self._matched.append(matched)
        self._follow.append(0)
        return False, place, place

    def read_group(self):
        """Read a pattern in brackets."""
        if self._depth == MAX_DEPTH:
            raise InvalidSyntax(self._at)
        self._at += 1
        self._depth += 1
        found = self.read_choice()
        if not self.sees(")"):
            raise InvalidSyntax(self._at)
        self._at += 1
        self._depth -= 1
        return found

    def read_listed(self):
        """Read what stands behind an opening square bracket and return the characters that it matches."""
        others = self.sees("^")
        if others:
            self._at += 1
        listed = ""
        while listed == "" or not self.sees("]"):
            if not self.sees(self._characters) or self.sees(listed):
                raise InvalidSyntax(self._at)
            listed = listed + self._text[self._at]
            self._at += 1
        self._at += 1
        if others:
            return "".join([character for character in self._characters if character not in listed])
        return listed

    def link(self, last, first):
        """Let some places be followed by other ones."""
        for place in range(len(self._follow)):
            if last >> place & 1 == 1:
                self._follow[place] = self._follow[place] | first
