"""Tails: the end of a form that what follows may still change."""

from canontext.soundness import table_atoms
from canontext.tables import Table


class Tail:
    """The last base of a form and the marks behind it, atom by atom; nothing in front of them can change.

    The base is kept as it was before these marks, and they are kept by class, in the order in which
    they came. Without a base so far, its place is the empty string.
    """

    def __init__(self, table, composed):
        self._table = table
        self._composed = composed
        self._base = ""
        self._marks = {}
        self._atoms = table_atoms(table)
        # No mark that follows comes to stand in front of marks of the least class.
        self._least = min([table.class_of(atom) for atom in self._atoms if table.class_of(atom) > 0], default=0)

    def take(self, atom):
        """Take one more atom and return the list of what stands in front of the tail now."""
        rank = self._table.class_of(atom)
        if rank > 0:
            if rank not in self._marks:
                self._marks[rank] = []
            self._marks[rank].append(atom)
            return []
        bases, taken = self.combined()
        settled = self.letters_from(0)
        composite = None
        if not self.staying(taken):
            composite = self.pair(bases[-1], atom)
        self._marks = {}
        if composite is not None:
            self._base = composite
            return []
        self._base = atom
        return settled

    def pair(self, base, atom):
        """Return the composite that takes the place of a base if an atom is combined with it, or None."""
        if base == "" or not self._composed:
            return None
        return self._table.composite_of(base, atom)

    def combined(self):
        """Return what the base is behind the marks of each class, and a dict of how many of each it has taken."""
        bases = [self._base for _ in range(Table.MAX_CLASS + 1)]
        taken = {}
        if not self._marks:
            return bases, taken
        for rank in range(1, Table.MAX_CLASS + 1):
            bases[rank] = bases[rank - 1]
            marks = self._marks.get(rank, [])
            used = 0
            while used < len(marks):
                composite = self.pair(bases[rank], marks[used])
                # The first mark that stays blocks all others of its class.
                if composite is None:
                    break
                bases[rank] = composite
                used += 1
            if marks:
                taken[rank] = used
        return bases, taken

    def staying(self, taken):
        """Return the list of the classes of the marks that the base has not taken."""
        return [rank for rank in taken if taken[rank] < len(self._marks[rank])]

    def letters_from(self, start):
        """Return the list of the characters of the tail from an index on."""
        bases, taken = self.combined()
        found = list(bases[-1])[start:]
        skipped = max(0, start - len(bases[-1]))
        # What was returned before is never gone through again, as it may be very long.
        for rank in taken:
            marks = self._marks[rank]
            first = min(len(marks), taken[rank] + skipped)
            skipped = skipped - (first - taken[rank])
            found.extend(marks[first:])
        return found

    def final_from(self, start):
        """Return the list of the characters, from an index on, that nothing that follows can change."""
        bases, taken = self.combined()
        # What changes the base at all has a single atom that does so by itself.
        if any([self.changes_base(atom, bases, taken) for atom in self._atoms]):
            return []
        marks = self._marks.get(self._least, [])
        used = taken.get(self._least, 0)
        if start == 0:
            return list(bases[-1]) + marks[used:]
        return marks[used + start - len(bases[-1]):]

    def changes_base(self, character, bases, taken):
        """Return whether a character that follows changes the base, given what `combined` returned."""
        blocked = self.staying(taken)
        for atom in self._table.atoms(character):
            rank = self._table.class_of(atom)
            if rank == 0:
                return not blocked and self.pair(bases[-1], atom) is not None
            if rank not in blocked and self.pair(bases[rank], atom) is not None:
                return True
            blocked.append(rank)
        return False

    def changes_marks(self, character, first):
        """Return whether a character that follows puts a mark in front of those of a class."""
        for atom in self._table.atoms(character):
            rank = self._table.class_of(atom)
            if rank == 0:
                return False
            if rank < first:
                return True
        return False

    def first_changer(self, held):
        """Return the first character that follows and changes one that is held back."""
        bases, taken = self.combined()
        first = self._table.class_of(held)
        if first == 0:
            found = [one for one in self._table.characters if self.changes_base(one, bases, taken)]
        else:
            found = [one for one in self._table.characters if self.changes_marks(one, first)]
        return found[0]
