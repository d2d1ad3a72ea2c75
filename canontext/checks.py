"""Checks of the arguments that many functions take."""

from canontext.characters import is_text
from canontext.errors import InvalidTable, InvalidText
from canontext.tables import Table

MAX_LENGTH = 60


def check_table(table):
    """Raise InvalidTable for any value that is not a table."""
    if not isinstance(table, Table):
        raise InvalidTable(table)


def check_text(table, text):
    """Raise InvalidText for any value that is not a text over the table of at most 60 characters."""
    if not is_text(text, table.characters) or len(text) > MAX_LENGTH:
        raise InvalidText(text)
