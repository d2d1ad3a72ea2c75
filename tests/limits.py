"""Tables at the limits of point 7, and a test case in which nothing may take long."""

import signal
import string
import unittest

from canontext.tables import Table

SECONDS = 30


def doubled_marks():
    """Thirty characters: two atoms, and marks of up to eight atoms, most of them of eight."""
    lines = ["u 1", "v 2", "A 1 = uu", "B 1 = AA", "C 1 = BB"]
    names = [letter for letter in string.ascii_letters if letter not in "uvABC"][:25]
    lines.extend([f"{name} 1 = {other}" for name, other in zip(names, ["C", *names])])
    return Table.from_text("\n".join(lines))


def mixed_marks():
    """Thirty characters: three atoms, and marks of up to eight atoms, no two of them alike."""
    lines = ["a 0", "u 1", "v 2"]
    names = {(1, 0): "u", (0, 1): "v"}
    free = [letter for letter in string.ascii_letters if letter not in "auv"]
    pairs = [(ones, twos) for total in range(2, 9) for twos in range(4) for ones in [total - twos] if ones >= 0]
    for ones, twos in pairs:
        part, atom = ((ones - 1, twos), "u") if ones else ((0, twos - 1), "v")
        names[ones, twos] = free.pop()
        lines.append(f"{names[ones, twos]} 1 = {names[part]}{atom}")
    return Table.from_text("\n".join(lines))


def bases_and_marks():
    """Thirty characters: bases of up to eight atoms, marks of every class."""
    lines = ["a 0", "b 0", "A 0 = aa", "B 0 = AA", "C 0 = BB", "D 0 = C", "E 0 = D"]
    lines.extend([f"{rank} {rank}" for rank in range(1, 10)])
    parts = ["a", *"FGHIJKL"]
    lines.extend([f"{name} 0 = {part}{rank}" for name, part, rank in zip("FGHIJKL", parts, "1234567")])
    lines.extend([f"{name} 0 = {part}{rank}" for name, part, rank in zip("MNOPQRS", parts, "8989898")])
    return Table.from_text("\n".join(lines))


class TimedCase(unittest.TestCase):
    """Each test must end soon."""

    def setUp(self):
        signal.signal(signal.SIGALRM, self.stop)
        signal.alarm(SECONDS)

    def tearDown(self):
        signal.alarm(0)

    def stop(self, *_):
        self.fail(f"took more than {SECONDS} seconds")
