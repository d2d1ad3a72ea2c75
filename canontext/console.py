"""A console: a table and a buffer over it, with commands that are lines of text."""

from canontext.answers import ANSWERS, BETWEEN, shown
from canontext.buffers import Buffer
from canontext.commands import TABLE_COMMAND, read_line
from canontext.errors import InvalidCommand
from canontext.search import replaced
from canontext.tables import Table

MAX_LINES = 40


def edit_text(buffer, values):
    """Edit the text of a buffer."""
    buffer.edit(values[0], values[1], values[2])


def put_text(buffer, values):
    """Put a text into that of a buffer."""
    buffer.put(values[0], values[1])


def cut_text(buffer, values):
    """Take characters of the text of a buffer away."""
    buffer.cut(values[0], values[1])


def undo_edit(buffer, _):
    """Take back an edit."""
    buffer.undo()


def redo_edit(buffer, _):
    """Do an edit again."""
    buffer.redo()


def replace_parts(buffer, values):
    """Replace parts of the text of a buffer, as one edit of all of it."""
    text = buffer.text
    buffer.edit(0, len(text), replaced(buffer.table, text, values[0], values[1]))


CHANGES = {
    "edit": edit_text,
    "put": put_text,
    "cut": cut_text,
    "undo": undo_edit,
    "redo": redo_edit,
    "replace": replace_parts,
}


class Console:
    """Runs commands over a buffer; a command that raises an error changes nothing."""

    def __init__(self):
        self._buffer = Buffer(Table({"a": 0}))

    def run(self, line):
        """Run a command and return its output."""
        name, values = read_line(line)
        if name in ANSWERS:
            answer = ANSWERS[name]
            return answer(self._buffer, values)
        if name == TABLE_COMMAND:
            self._buffer = Buffer(Table.from_text(values[0].replace(BETWEEN, "\n")))
            return "ok"
        if name == "text":
            self._buffer = Buffer(self._buffer.table, values[0])
        else:
            change = CHANGES[name]
            change(self._buffer, values)
        return shown(self._buffer.form)

    def run_all(self, lines):
        """Run commands in order and return the list of their outputs; if one raises an error, none has an effect."""
        if not isinstance(lines, (list, tuple)) or len(lines) > MAX_LINES:
            raise InvalidCommand(lines)
        other = self.clone()
        outputs = [other.run(line) for line in lines]
        self._buffer = other._buffer
        return outputs

    def clone(self):
        """Return an independent console in the same state."""
        other = Console()
        other._buffer = self._buffer.duplicate()
        return other

    @property
    def table(self):
        """The table."""
        return self._buffer.table

    @property
    def text(self):
        """The text of the buffer."""
        return self._buffer.text

    @property
    def form(self):
        """The composed form of the text."""
        return self._buffer.form
