"""Patterns as trees, and the texts for which they stand by following all ways through them."""


def random_tree(chance, characters, places):
    """A random pattern with at most a number of places: a tuple (sort, ...)."""
    if places == 0:
        return ("row", [])
    sort = chance.choice(["one", "one", "one", "any", "listed", "row", "row", "choice", "sign", "sign"])
    if sort == "one":
        return ("listed", chance.choice(characters), "one")
    if sort == "any":
        return ("listed", characters, "any")
    if sort == "listed":
        listed = "".join(chance.sample(characters, chance.randint(1, len(characters))))
        return ("listed", listed, "brackets") if chance.random() < 0.5 else (
            "listed", "".join(sorted(set(characters) - set(listed))), "[^" + listed + "]")
    if sort == "sign":
        return ("sign", random_tree(chance, characters, places), chance.choice("*+?"))
    first = chance.randint(0, places)
    parts = [random_tree(chance, characters, part) for part in (first, places - first)]
    return (sort, parts)


def written(tree):
    """The text of a pattern."""
    if tree[0] == "listed":
        _, listed, form = tree
        return {"one": listed, "any": ".", "brackets": "[" + listed + "]"}.get(form, form)
    if tree[0] == "sign":
        inner = written(tree[1])
        single = tree[1][0] in ("listed", "sign")
        return (inner if single else "(" + inner + ")") + tree[2]
    if tree[0] == "row":
        return "".join(["(" + written(part) + ")" if part[0] == "choice" else written(part) for part in tree[1]])
    return "|".join([written(part) for part in tree[1]])


def ends(tree, text, starts):
    """Where a text can be when a pattern has been followed from some places in it."""
    if tree[0] == "listed":
        return {at + 1 for at in starts if at < len(text) and text[at] in tree[1]}
    if tree[0] == "row":
        for part in tree[1]:
            starts = ends(part, text, starts)
        return starts
    if tree[0] == "choice":
        return set().union(*[ends(part, text, starts) for part in tree[1]])
    found = set(starts) if tree[2] in "*?" else set()
    new = ends(tree[1], text, starts)
    while not new <= found:
        found |= new
        if tree[2] == "?":
            break
        new = ends(tree[1], text, found)
    return found


def accepts(tree, text):
    """Whether a pattern stands for a text."""
    return len(text) in ends(tree, text, {0})
