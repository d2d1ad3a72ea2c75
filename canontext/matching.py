"""Matching: which variants of a text a pattern accepts, or why it accepts none."""

from canontext.errors import InvalidInteger, UnknownIndex
from canontext.integers import is_between, is_integer
from canontext.patterns import check_pattern
from canontext.rests import form_rests
from canontext.soundness import check_texts, decomposed_form
from canontext.variants import numbered_steps


class Walks:
    """The ways over the rests of a text, and through the states of a pattern at the same time.

    Each variant is such a way: character by character, it leads from the decomposed form and state 0 to
    the empty text and the state that tells whether it is accepted. The rests have numbers, from 0 for the
    decomposed form; each step leads to a higher number.
    """

    def __init__(self, pattern, text):
        check_pattern(pattern)
        table = pattern.table
        check_texts(table, [text])
        self._rests = form_rests(table, decomposed_form(table, text))
        self._steps = numbered_steps(table, self._rests, table.characters)
        self._columns = {character: pattern.column(character) for character in table.characters}
        self._accepted = [pattern.is_accepting(state) for state in range(len(pattern))]

    def rest_numbers(self):
        """Return a dict that maps the rests, in order, to their numbers."""
        return {rest: number for number, rest in enumerate(self._rests)}

    def state_count(self):
        """Return the number of states."""
        return len(self._accepted)

    def is_end(self, number):
        """Return whether a rest is the empty text."""
        return number == len(self._rests) - 1

    def steps_from(self, number, state):
        """Return the list of the steps from a rest and a state: the character, the rest and the state behind it."""
        return [
            (character, after, self._columns[character][state])
            for character, after in self._steps[number].items()
        ]

    def totals(self):
        """Return a list with a list for each rest: how many of its variants are accepted from each state."""
        last = len(self._rests) - 1
        found = [[]] * last + [[int(accepted) for accepted in self._accepted]]
        for number in reversed(range(last)):
            rows = []
            for character, after in self._steps[number].items():
                behind = found[after]
                rows.append([behind[state] for state in self._columns[character]])
            found[number] = [sum(column) for column in zip(*rows)]
        return found

    def reached(self):
        """Return a list with a dict for each rest whose keys are the states in which ways reach it."""
        found = [{} for _ in self._rests]
        found[0][0] = True
        for number, steps in enumerate(self._steps):
            states = list(found[number])
            for character, after in steps.items():
                column = self._columns[character]
                found[after].update({column[state]: True for state in states})
        return found

    def is_refuted_by(self, groups):
        """Return whether ways that are in one of some states at each rest are in them there, and none is accepted."""
        if 0 not in groups[0] or any([self._accepted[state] for state in groups[-1]]):
            return False
        for number, steps in enumerate(self._steps):
            for character, after in steps.items():
                column = self._columns[character]
                if not all([column[state] in groups[after] for state in groups[number]]):
                    return False
        return True


def accepted_count(pattern, text):
    """Return how many variants of a text a pattern accepts."""
    return Walks(pattern, text).totals()[0][0]


def some_variant(pattern, text):
    """Return the first accepted variant in the order of strings, or None if there is none."""
    walks = Walks(pattern, text)
    totals = walks.totals()
    if totals[0][0] == 0:
        return None
    return accepted_text(walks, totals, 0)


def accepted_at(pattern, text, index):
    """Return the accepted variant with an index."""
    walks = Walks(pattern, text)
    totals = walks.totals()
    if not is_between(index, 0, totals[0][0] - 1):
        raise UnknownIndex(index)
    return accepted_text(walks, totals, index)


def accepted_text(walks, totals, index):
    """Return the accepted variant with an index that exists."""
    characters = []
    number = 0
    state = 0
    left = index
    while not walks.is_end(number):
        for character, after, led in walks.steps_from(number, state):
            if left < totals[after][led]:
                break
            left -= totals[after][led]
        characters.append(character)
        number = after
        state = led
    return "".join(characters)


def each_accepted(pattern, text, *, start=0):
    """Yield the accepted variants in order, from an index on."""
    walks = Walks(pattern, text)
    if not is_integer(start) or start < 0:
        raise InvalidInteger(start)
    totals = walks.totals()
    skipped = start
    # Beginnings of variants with the rests behind them and the states, the first one last.
    waiting = [("", 0, 0)]
    while waiting:
        beginning, number, state = waiting.pop()
        if skipped >= totals[number][state]:
            skipped -= totals[number][state]
        elif walks.is_end(number):
            yield beginning
        else:
            steps = walks.steps_from(number, state)
            waiting.extend([(beginning + character, after, led) for character, after, led in steps[::-1]])


def refutation(pattern, text):
    """Return None if some variant is accepted, otherwise a list of rests and states that shows that none is."""
    walks = Walks(pattern, text)
    groups = walks.reached()
    if not walks.is_refuted_by(groups):
        return None
    return [(rest, state) for rest, number in walks.rest_numbers().items() for state in groups[number]]


def is_refutation(pattern, text, value):
    """Return whether any value is a list of rests and states that shows that no variant is accepted."""
    walks = Walks(pattern, text)
    if not isinstance(value, list):
        return False
    numbers = walks.rest_numbers()
    groups = [{} for _ in numbers]
    for item in value:
        if not isinstance(item, tuple) or len(item) != 2:
            return False
        rest, state = item
        if not isinstance(rest, str) or rest not in numbers or not is_between(state, 0, walks.state_count() - 1):
            return False
        if state in groups[numbers[rest]]:
            return False
        groups[numbers[rest]][state] = True
    return walks.is_refuted_by(groups)


def matches(pattern, text):
    """Return whether a pattern accepts some variant of a text."""
    return accepted_count(pattern, text) > 0
