"""Values and tables that several tests use."""

from canontext.errors import InvalidText
from canontext.tables import Table


def any_values():
    """New values of every kind that may be passed as any value; none is a table or a text over one."""
    return [
        None,
        True,
        False,
        0,
        -1,
        10,
        10 ** 29,
        " ",
        "\n",
        "a b",
        "_",
        [],
        ["a"],
        ["a", "u"],
        (),
        ("a",),
        ("a", "u", "v"),
        ("a", None),
        ([], {}),
        {},
        {"a": 0},
        {1: ["a"], (2, "a"): None},
        [[[[[["a"]]]]]],
        InvalidText("a"),
        Table,
    ]


def example():
    """The table of the example behind point 24."""
    return Table({"a": 0, "u": 1, "v": 2, "A": 0, "B": 0}, decompositions={"A": "au", "B": "Av"}, excluded="B")


def unsound():
    """The table of the example behind point 34."""
    return Table({"u": 1, "v": 2, "x": 2, "W": 1}, decompositions={"W": "xu"})


def small_tables():
    """Tables of every sort, sound ones and others, each with few characters."""
    marks = {"u": 1, "v": 2, "x": 2}
    tables = [
        Table({"a": 0}),
        Table({"u": 1}),
        Table({"a": 0, "A": 0}, decompositions={"A": "a"}),
        Table({"a": 0, "A": 0, "B": 0}, decompositions={"A": "aa", "B": "Aa"}),
        Table({**marks, "a": 0, "A": 0}, decompositions={"A": "au"}),
        Table({**marks, "a": 0, "A": 0, "B": 0}, decompositions={"A": "au", "B": "Av"}, excluded="BB"),
    ]
    # A composed mark of each class, with parts of all sorts, a base among them.
    for rank in (1, 2, 3):
        for parts in ("u", "v", "uu", "uv", "vu", "vx", "xv", "ua", "xu", "va"):
            tables.append(Table({**marks, "a": 0, "W": rank}, decompositions={"W": parts}))
    for parts in ("WW", "Wu", "uW", "Wa", "W"):
        tables.append(Table({**marks, "a": 0, "W": 1, "X": 2}, decompositions={"W": "u", "X": parts}))
    return tables


def texts_up_to(table, length):
    """All texts over a table of at most a length."""
    texts = [""]
    for start in texts:
        if len(start) < length:
            texts.extend([start + character for character in table.characters])
    return texts
