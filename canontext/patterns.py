"""Patterns: sets of texts, by the smallest tables of states, and whether they are closed under equivalence."""

from canontext.characters import is_text
from canontext.checks import check_table, check_text
from canontext.errors import InvalidInteger, InvalidPattern, InvalidSyntax
from canontext.integers import is_between
from canontext.soundness import rules
from canontext.states import state_table
from canontext.syntax import PatternReader


class Pattern:
    """A set of texts over a table; a pattern never changes."""

    def __init__(self, table, text):
        check_table(table)
        if not isinstance(text, str):
            raise InvalidSyntax(-1)
        self._table = table
        self._text = text
        reader = PatternReader(table.characters, text)
        found = reader.read()
        self._columns, self._accepted = state_table(reader, table.characters, found)

    @property
    def table(self):
        """The table."""
        return self._table

    @property
    def text(self):
        """The pattern as it was written."""
        return self._text

    def __call__(self, text):
        check_text(self._table, text)
        return self.is_accepting(self.led_to(0, text))

    def state_after(self, text, *, start=0):
        """Return the state to which a text leads from a state."""
        check_text(self._table, text)
        if not is_between(start, 0, len(self._accepted) - 1):
            raise InvalidInteger(start)
        return self.led_to(start, text)

    def led_to(self, state, text):
        """Return the state to which a text over the table, of any length, leads from a state."""
        for character in text:
            state = self._columns[character][state]
        return state

    def is_accepting(self, state):
        """Return whether the texts that lead to a state are accepted."""
        return self._accepted[state]

    def column(self, character):
        """Return the list of the states to which a character leads from each state."""
        return list(self._columns[character])

    def accepting(self):
        """Return the list of the states whose texts are accepted."""
        return [state for state, accepted in enumerate(self._accepted) if accepted]

    def __len__(self):
        return len(self._accepted)

    def __str__(self):
        return str(self._text)

    def __eq__(self, other):
        return (
            isinstance(other, Pattern)
            and self._table == other._table
            and self._columns == other._columns
            and self._accepted == other._accepted
        )


def check_pattern(pattern):
    """Raise InvalidPattern for any value that is not a pattern."""
    if not isinstance(pattern, Pattern):
        raise InvalidPattern(pattern)


def closure_gap(pattern):
    """Return None for a closed pattern, otherwise two texts that differ by a rule, of which it accepts one."""
    check_pattern(pattern)
    sides = rules(pattern.table)
    for state, before in enumerate(first_texts(pattern)):
        for left, right in sides:
            one = pattern.led_to(state, left)
            other = pattern.led_to(state, right)
            if one != other:
                return before, left, right, separating_text(pattern, one, other)
    return None


def is_gap(pattern, value):
    """Return whether any value is a tuple of four texts that shows that a pattern is not closed."""
    check_pattern(pattern)
    if not isinstance(value, tuple) or len(value) != 4:
        return False
    if not all([is_text(item, pattern.table.characters) for item in value]):
        return False
    before, left, right, after = value
    sides = rules(pattern.table)
    if (left, right) not in sides and (right, left) not in sides:
        return False
    one = pattern.led_to(0, before + left + after)
    other = pattern.led_to(0, before + right + after)
    return pattern.is_accepting(one) != pattern.is_accepting(other)


def first_texts(pattern):
    """Return the list of the first texts that lead to the states."""
    columns = {character: pattern.column(character) for character in pattern.table.characters}
    texts = [""]
    state = 0
    # States are numbered in the order in which such texts reach them.
    while len(texts) < len(pattern):
        for character in columns:
            if columns[character][state] == len(texts):
                texts.append(texts[state] + character)
        state += 1
    return texts


def separating_text(pattern, one, other):
    """Return a text that leads from one of two different states to acceptance, and not from the other one."""
    columns = {character: pattern.column(character) for character in pattern.table.characters}
    waiting = [(one, other, "")]
    known = {(one, other): True}
    at = 0
    while pattern.is_accepting(waiting[at][0]) == pattern.is_accepting(waiting[at][1]):
        first, second, text = waiting[at]
        at += 1
        for character, column in columns.items():
            pair = (column[first], column[second])
            if pair not in known:
                known[pair] = True
                waiting.append((pair[0], pair[1], text + character))
    return waiting[at][2]
