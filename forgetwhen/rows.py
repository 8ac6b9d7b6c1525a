"""Rows of marks: their kinds, and the maps of what lies ahead of the first one, between two, behind the last one."""

from forgetwhen.checks import all_below, is_row_of, is_row_within
from forgetwhen.errors import InvalidItems
from forgetwhen.machines import same_map, then

MOST_ROW = 400


def is_marked_row(machine, value):
    """Whether any value is a row of at most 400 marks."""
    if not is_row_of(value, 2):
        return False
    maps, kinds = value
    if not (is_row_within(kinds, 0, MOST_ROW) and is_row_of(maps, len(kinds) + 1)):
        return False
    many = len(machine[1])
    return all_below(kinds, len(machine[0])) and all(is_row_of(one, many) and all_below(one, many) for one in maps)


def row_in_tuples(row):
    maps, kinds = row
    return (tuple(tuple(one) for one in maps), tuple(kinds))


def need_row(machine, value):
    """The row, in tuples."""
    if not is_marked_row(machine, value):
        raise InvalidItems(-1)
    return row_in_tuples(value)


def empty_row(machine):
    """No marks, and the map that changes nothing."""
    return ((same_map(machine),), ())


def ways_of_row(maps, row):
    """For each mark the map of its kind together with what lies behind it."""
    return [then(maps[kind], one) for kind, one in zip(row[1], row[0][1:])]


def state_of_row(maps, row):
    """Where a row leads 0 to."""
    state = row[0][0][0]
    for one in ways_of_row(maps, row):
        state = one[state]
    return state


def needed_of_row(gaps, row):
    """The places of a row's needed marks."""
    return gaps.needed_along(gaps.states_behind((0,), row[0][0]), ways_of_row(gaps.maps, row))


def row_of_kept(maps, row, kept):
    """The row with these marks alone: the others are gone into the maps."""
    stays = {place: True for place in kept}
    between = [row[0][0]]
    kinds = []
    for place, kind in enumerate(row[1]):
        behind = row[0][place + 1]
        if place in stays:
            between.append(behind)
            kinds.append(kind)
        else:
            between[-1] = then(between[-1], then(maps[kind], behind))
    return (tuple(between), tuple(kinds))


def row_with(row, place, kind):
    """The row with a mark more, at the end of the gap behind so many marks."""
    maps, kinds = row
    same = tuple(range(len(maps[0])))
    return ((*maps[:place + 1], same, *maps[place + 1:]), (*kinds[:place], kind, *kinds[place:]))


def needed_row(gaps, row):
    """(the row with its needed marks alone, their places)"""
    kept = needed_of_row(gaps, row)
    return row_of_kept(gaps.maps, row, kept), kept


def row_behind_news(gaps, row, place, kind):
    """(row, kept) with news more behind so many marks."""
    return needed_row(gaps, row_with(row, place, kind))


def layer_of(gaps, classes, begins):
    """(layer, a state of each of its classes): classes of a gap as first come to, from where the layer ahead leads."""
    numbers = {}
    met = []
    for state in begins:
        if classes[state] not in numbers:
            numbers[classes[state]] = len(met)
            met.append(state)
    rows = []
    while len(rows) < len(met):
        states = [one[met[len(rows)]] for one in gaps.late_maps]
        for state in states:
            if classes[state] not in numbers:
                numbers[classes[state]] = len(met)
                met.append(state)
        rows.append(tuple(numbers[classes[state]] for state in states))
    return (tuple(numbers[classes[state]] for state in begins), tuple(rows)), tuple(met)


def form_of_row(gaps, row):
    """(layers, ends): all that a row tells, whatever comes."""
    ways = ways_of_row(gaps.maps, row)
    begins = (row[0][0][0],)
    layers = []
    for gap, classes in enumerate(gaps.relations_along(ways)):
        if gap > 0:
            begins = then(begins, ways[gap - 1])
        layer, begins = layer_of(gaps, classes, begins)
        layers.append(layer)
    return (tuple(layers), tuple(gaps.last[state] for state in begins))
