"""Values and tables that several tests use."""

from canontext.errors import InvalidText
from canontext.soundness import rules
from canontext.tables import Table


def any_values():
    """New values of every kind that may be passed as any value; none is a table or a text over one."""
    return [
        None,
        True,
        False,
        0,
        -1,
        10,
        10 ** 29,
        " ",
        "\n",
        "a b",
        "_",
        [],
        ["a"],
        ["a", "u"],
        (),
        ("a",),
        ("a", "u", "v"),
        ("a", None),
        ([], {}),
        {},
        {"a": 0},
        {1: ["a"], (2, "a"): None},
        [[[[[["a"]]]]]],
        InvalidText("a"),
        Table,
    ]


def no_integers():
    """New values of every kind that may be passed as any value; none is an integer."""
    return [value for value in any_values() if type(value) is not int] + ["0", "a", [0], (0,), {0: 0}]


def example():
    """The table of the example behind point 24."""
    return Table({"a": 0, "u": 1, "v": 2, "A": 0, "B": 0}, decompositions={"A": "au", "B": "Av"}, excluded="B")


def unsound():
    """The table of the example behind point 34."""
    return Table({"u": 1, "v": 2, "x": 2, "W": 1}, decompositions={"W": "xu"})


def small_tables():
    """Tables of every sort, sound ones and others, each with few characters."""
    marks = {"u": 1, "v": 2, "x": 2}
    tables = [
        Table({"a": 0}),
        Table({"u": 1}),
        Table({"a": 0, "A": 0}, decompositions={"A": "a"}),
        Table({"a": 0, "A": 0, "B": 0}, decompositions={"A": "aa", "B": "Aa"}),
        Table({**marks, "a": 0, "A": 0}, decompositions={"A": "au"}),
        Table({**marks, "a": 0, "A": 0, "B": 0}, decompositions={"A": "au", "B": "Av"}, excluded="BB"),
    ]
    # A composed mark of each class, with parts of all sorts, a base among them.
    for rank in (1, 2, 3):
        for parts in ("u", "v", "uu", "uv", "vu", "vx", "xv", "ua", "xu", "va"):
            tables.append(Table({**marks, "a": 0, "W": rank}, decompositions={"W": parts}))
    for parts in ("WW", "Wu", "uW", "Wa", "W"):
        tables.append(Table({**marks, "a": 0, "W": 1, "X": 2}, decompositions={"W": "u", "X": parts}))
    return tables


def texts_up_to(table, length):
    """All texts over a table of at most a length."""
    texts = [""]
    for start in texts:
        if len(start) < length:
            texts.extend([start + character for character in table.characters])
    return texts


def sound_tables():
    """Sound tables of every sort, each with few characters."""
    return [Table.from_text("\n".join(lines)) for lines in (
        ["a 0"],
        ["u 1", "v 2", "w 3"],
        # The tables of the examples behind points 24, 43, 51 and 66.
        ["a 0", "u 1", "v 2", "A 0 = au", "B 0 = Av excluded"],
        ["a 0", "b 0", "m 1", "n 2", "B 0 = bm"],
        ["a 0", "u 1", "v 2", "A 0 = au", "B 0 = av", "C 0 = Av"],
        ["b 0", "m 1", "n 2", "B 0 = bm"],
        # A base that pairs with itself, and one of several bases.
        ["a 0", "m 1", "P 0 = aa", "Q 0 = Pm"],
        ["a 0", "b 0", "u 1", "D 0 = ab", "E 0 = Du", "F 0 = bE"],
        # Composites of one character, a mark of another class than its atoms, a base at the end.
        ["a 0", "u 1", "v 2", "A 0 = a", "U 1 = u", "B 0 = Au"],
        ["a 0", "u 1", "v 2", "W 2 = uu", "A 0 = aW"],
        ["a 0", "u 1", "v 2", "W 1 = uv", "A 0 = aW", "B 0 = au"],
        ["a 0", "u 1", "x 1", "W 1 = ua", "A 0 = ax"],
        # Marks of one class, and atoms that are combined in another way first.
        ["a 0", "u 1", "x 1", "v 2", "A 0 = ax", "B 0 = Au"],
        ["a 0", "u 2", "v 1", "A 0 = au", "D 0 = Av", "E 0 = av"],
    )]


def sides_of(table):
    """All pairs of a side of a rule and its other side."""
    return [pair for rule in rules(table) for pair in (rule, rule[::-1])]


def replaced_once(sides, text):
    """All texts that replace one side by the other one, tried at each position."""
    return {
        text[:at] + new + text[at + len(old):]
        for old, new in sides
        for at in range(len(text))
        if text[at:at + len(old)] == old
    }


def steps_from(table, text):
    """All texts to which one step leads."""
    return replaced_once(sides_of(table), text)


def reached_from(table, text):
    """All texts to which steps lead from a text, in ascending order."""
    sides = sides_of(table)
    reached = {text}
    waiting = [text]
    while waiting:
        new = replaced_once(sides, waiting.pop()) - reached
        reached |= new
        waiting.extend(new)
    return sorted(reached)


def equivalent_texts(table, length):
    """The sets of equivalent texts that have a text of at most a length, by steps, each in ascending order."""
    sets = []
    known = set()
    for text in texts_up_to(table, length):
        if text not in known:
            sets.append(reached_from(table, text))
            known.update(sets[-1])
    return sets
