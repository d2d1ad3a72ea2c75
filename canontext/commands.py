"""The lines of a console: the names of commands and their arguments."""

from canontext.errors import InvalidCommand
from canontext.tables import DIGITS

MAX_DIGITS = 30

TABLE_COMMAND = "table"

# The arguments of each other command: N is a number, W a word.
ARGUMENTS = {
    "text": "W",
    "edit": "NNW",
    "put": "NW",
    "cut": "NN",
    "undo": "",
    "redo": "",
    "replace": "WW",
    "show": "",
    "rows": "",
    "change": "",
    "forms": "W",
    "same": "WW",
    "count": "",
    "variant": "N",
    "shortest": "",
    "find": "W",
    "lacks": "W",
    "accepts": "W",
    "match": "W",
    "closed": "W",
    "formed": "",
    "spell": "W",
    "unspelled": "W",
}


def read_line(line):
    """Return the name of the command of a line and the list of its arguments; raises InvalidCommand."""
    if not isinstance(line, str) or "\n" in line:
        raise InvalidCommand(line)
    words = line.split(" ")
    name = words[0]
    if name == TABLE_COMMAND and len(words) > 1:
        return name, [line[len(name) + 1:]]
    if name not in ARGUMENTS or len(words) - 1 != len(ARGUMENTS[name]):
        raise InvalidCommand(line)
    rows = list(zip(ARGUMENTS[name], words[1:]))
    if not all([is_argument(kind, word) for kind, word in rows]):
        raise InvalidCommand(line)
    return name, [argument(kind, word) for kind, word in rows]


def is_argument(kind, word):
    """Return whether a string without blanks is a number, or a word."""
    if kind == "W":
        return word != ""
    if not 1 <= len(word) <= MAX_DIGITS or not all([digit in DIGITS for digit in word]):
        return False
    return word == "0" or word[0] != "0"


def argument(kind, word):
    """Return the integer or the text for which a word stands."""
    if kind == "N":
        return int(word)
    if word == "-":
        return ""
    return word
