"""Variants: all texts that are equivalent to a text, by their indices."""

from canontext.characters import is_text
from canontext.errors import InvalidInteger, InvalidText, NoVariant, UnknownIndex
from canontext.integers import is_between, is_integer
from canontext.rests import form_rests, forms_behind, full_decompositions, passed_marks
from canontext.soundness import check_texts, decomposed_form


class Variants:
    """All variants of a text, in ascending order; they may be far too many to be gone through.

    Character by character, each variant leads over rests of the text to the empty one. The rests
    have numbers, from 0 for the decomposed form; each step leads to a higher number.
    """

    def __init__(self, table, text):
        check_texts(table, [text])
        self._table = table
        self._rests = form_rests(table, decomposed_form(table, text))
        self._steps = numbered_steps(table, self._rests, table.characters)
        self._totals = variant_totals(self._steps)

    @property
    def variant_count(self):
        """The number of variants."""
        return self._totals[0]

    def __getitem__(self, index):
        if not is_between(index, 0, self._totals[0] - 1):
            raise UnknownIndex(index)
        characters = []
        number = 0
        left = index
        while self._rests[number] != "":
            for character, after in self._steps[number].items():
                if left < self._totals[after]:
                    break
                left -= self._totals[after]
            characters.append(character)
            number = after
        return "".join(characters)

    def __iter__(self):
        raise TypeError("variants are gone through by each")

    def __contains__(self, value):
        return isinstance(value, str) and self.is_variant(value)

    def is_variant(self, text):
        """Return whether a string is one of the variants."""
        number = 0
        for character in text:
            number = self._steps[number].get(character)
            if number is None:
                return False
        return self._rests[number] == ""

    def __eq__(self, other):
        return (
            isinstance(other, Variants)
            and self._table == other._table
            and self._rests[0] == other._rests[0]
        )

    def index_of(self, text):
        """Return the index of a variant."""
        if not is_text(text, self._table.characters):
            raise InvalidText(text)
        if not self.is_variant(text):
            raise NoVariant(text)
        index = 0
        number = 0
        for character in text:
            steps = self._steps[number]
            index += sum([self._totals[steps[smaller]] for smaller in steps if smaller < character])
            number = steps[character]
        return index

    def each(self, *, start=0):
        """Yield the variants in order, from an index on."""
        if not is_between(start, 0, self._totals[0]):
            raise InvalidInteger(start)
        skipped = start
        # Beginnings of variants with the numbers of the rests behind them, the first one last.
        waiting = [("", 0)]
        while waiting:
            beginning, number = waiting.pop()
            if skipped >= self._totals[number]:
                skipped -= self._totals[number]
            elif self._rests[number] == "":
                yield beginning
            else:
                steps = list(self._steps[number].items())
                waiting.extend([(beginning + character, after) for character, after in steps[::-1]])

    def lengths(self):
        """Return a dict that maps each length of a variant to the number of variants of this length."""
        last = len(self._rests) - 1
        # For each rest a list: at each length, how many variants of the rest have it.
        totals = {last: [1]}
        for number in reversed(range(last)):
            totals[number] = [0] + column_sums([totals[after] for after in self._steps[number].values()])
        return {length: total for length, total in enumerate(totals[0]) if total > 0}

    def shortest(self):
        """Return the first variant of the least length."""
        least = least_lengths(self._steps)
        characters = []
        number = 0
        while self._rests[number] != "":
            for character, after in self._steps[number].items():
                if least[after] + 1 == least[number]:
                    break
            characters.append(character)
            number = after
        return "".join(characters)

    def distances(self):
        """Return a dict that maps each rest to the length of a shortest variant of it."""
        least = least_lengths(self._steps)
        return {rest: least[number] for number, rest in enumerate(self._rests)}

    def is_distances(self, value):
        """Return whether any value is a dict of the rests that shows that no variant is shorter than it says."""
        if not isinstance(value, dict) or len(value) != len(self._rests):
            return False
        if not all([rest in value and is_integer(value[rest]) for rest in self._rests]):
            return False
        return value[""] == 0 and all([
            value[rest] <= value[self._rests[after]] + 1
            for number, rest in enumerate(self._rests)
            for after in self._steps[number].values()
        ])


def numbered_steps(table, found, characters):
    """Return a list with a dict for each rest: where those characters lead with which its variants begin."""
    decompositions = full_decompositions(table, characters)
    passed = passed_marks(table)
    numbers = {rest: number for number, rest in enumerate(found)}
    steps = []
    for rest in found:
        behind = forms_behind(rest, decompositions, passed)
        steps.append({character: numbers[behind[character]] for character in behind})
    return steps


def variant_totals(steps):
    """Return the list of the numbers of variants of all rests, given where steps lead from each of them."""
    last = len(steps) - 1
    totals = [0] * last + [1]
    for number in reversed(range(last)):
        totals[number] = sum([totals[after] for after in steps[number].values()])
    return totals


def least_lengths(steps):
    """Return the list of the least lengths of variants of all rests, given where steps lead from each of them."""
    last = len(steps) - 1
    least = [0] * len(steps)
    for number in reversed(range(last)):
        least[number] = 1 + min([least[after] for after in steps[number].values()])
    return least


def column_sums(rows):
    """Return the list of the sums of the numbers that stand at each index of some lists."""
    longest = max([len(row) for row in rows])
    padded = [row + [0] * (longest - len(row)) for row in rows]
    return [sum(column) for column in zip(*padded)]
