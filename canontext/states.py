"""The smallest table of states of a pattern."""


def state_table(reader, characters, pattern):
    """Return the states of a pattern that was read: the columns and whether each state is accepted.

    The columns are a dict that maps each character to the list of the states to which it leads.
    """
    matching = {character: reader.places_for(character) for character in characters}
    # Characters that match at the same places lead to the same states.
    kinds = []
    for places in matching.values():
        if places not in kinds:
            kinds.append(places)
    rows, accepted = all_states(reader, kinds, pattern)
    numbers = merged(rows, accepted)
    firsts = [numbers.index(number) for number in range(max(numbers) + 1)]
    columns = {
        character: [numbers[rows[state][kinds.index(matching[character])]] for state in firsts]
        for character in characters
    }
    return columns, [accepted[state] for state in firsts]


def all_states(reader, kinds, pattern):
    """Return the states that can be reached: where each kind of character leads, and whether each is accepted.

    A state is what can follow: the places that can be next, and whether the text can end.
    """
    empty, first, last = pattern
    states = [(first, empty)]
    numbers = {states[0]: 0}
    rows = []
    while len(rows) < len(states):
        row = []
        for places in kinds:
            passed = states[len(rows)][0] & places
            after = (reader.places_behind(passed), passed & last != 0)
            if after not in numbers:
                numbers[after] = len(states)
                states.append(after)
            row.append(numbers[after])
        rows.append(row)
    return rows, [accepted for _, accepted in states]


def merged(rows, accepted):
    """Return the numbers of states, the same number for those that the same texts lead to acceptance.

    The numbers have the order of the first state of each; that of states is the one in which they are reached.
    """
    numbers = numbered(accepted)
    while True:
        finer = numbered([
            tuple([numbers[state]] + [numbers[after] for after in row])
            for state, row in enumerate(rows)
        ])
        if max(finer) == max(numbers):
            return numbers
        numbers = finer


def numbered(keys):
    """Return a list with a number for each key, the same one for equal keys, in the order of the first ones."""
    numbers = {}
    for key in keys:
        if key not in numbers:
            numbers[key] = len(numbers)
    return [numbers[key] for key in keys]
