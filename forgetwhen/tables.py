"""Tables of twins, and what they show along a story."""

from forgetwhen.checks import is_below, is_lot_below, is_row_of, is_row_within
from forgetwhen.errors import InvalidTwin
from forgetwhen.machines import READINGS, need_machine
from forgetwhen.stories import need_story, states_along

MOST_WORDS = 60
MOST_MARKS = 6


def is_kept(value, many, most):
    """Whether any value is an ascending row of unlike numbers below many, at most so many."""
    return is_row_within(value, 0, most) and is_lot_below(value, many)


def need_rule(value, words, most, number, word):
    """One pair of a rule, in tuples: the word behind, and which of so many moments are kept."""
    if not (is_row_of(value, 2) and is_below(value[0], words) and is_kept(value[1], number + 1, most)):
        raise InvalidTwin(word)
    return (value[0], tuple(value[1]))


def need_places(value, kinds, words, most, number, word):
    """What becomes of so many marks of a word, in tuples: place by place, kind by kind, or empty."""
    if not (is_row_of(value, 0) or is_row_of(value, number + 1)):
        raise InvalidTwin(word)
    places = []
    for row in value:
        if not is_row_of(row, kinds):
            raise InvalidTwin(word)
        places.append(tuple(need_rule(rule, words, most, number, word) for rule in row))
    return tuple(places)


def need_twin(machine, value):
    """The table, in tuples."""
    machine = need_machine(machine)
    if not is_row_of(value, 3):
        raise InvalidTwin(-1)
    first, rules, shown = value
    if not (is_row_within(rules, 1, MOST_WORDS) and is_row_of(shown, len(rules)) and is_below(first, len(rules))):
        raise InvalidTwin(-1)
    if not is_row_within(rules[0], 1, MOST_MARKS + 1):
        raise InvalidTwin(0)
    most = len(rules[0]) - 1
    told = []
    for word, row in enumerate(rules):
        if not (is_row_of(row, most + 1) and is_below(shown[word], READINGS)):
            raise InvalidTwin(word)
        told.append(tuple(
            need_places(places, len(machine[0]), len(rules), most, number, word) for number, places in enumerate(row)
        ))
    return (first, tuple(told), tuple(shown))


def twin_sizes(machine, twin):
    """(how many words, how many marks at most)"""
    _, rules, _ = need_twin(machine, twin)
    return (len(rules), len(rules[0]) - 1)


def twin_step(twin, word, marks, moment, kind):
    """(word, marks) behind news, of a table that was looked at."""
    places = twin[1][word][len(marks)]
    if not places:
        raise InvalidTwin(word)
    place = len([mark for mark in marks if mark < moment])
    behind, kept = places[place][kind]
    moments = (*marks[:place], moment, *marks[place:])
    return behind, tuple(moments[number] for number in kept)


def twin_stands(machine, twin, late, story):
    """(word, marks) behind each beginning of a story."""
    machine = need_machine(machine)
    twin = need_twin(machine, twin)
    return stands_of(twin, need_story(machine, late, story))


def stands_of(twin, story):
    """(word, marks) behind each beginning, of things that were looked at; the story may be longer than 400 news."""
    word, marks = twin[0], ()
    stands = [(word, marks)]
    for moment, kind in story:
        word, marks = twin_step(twin, word, marks, moment, kind)
        stands.append((word, marks))
    return tuple(stands)


def twin_readings(machine, twin, late, story):
    """What the table shows behind each beginning of a story."""
    twin = need_twin(machine, twin)
    return tuple(twin[2][word] for word, _ in twin_stands(machine, twin, late, story))


def first_wrong(machine, twin, late, story):
    """How many news the first beginning has behind which the table shows what is not right, or None."""
    machine = need_machine(machine)
    twin = need_twin(machine, twin)
    return first_wrong_of(machine, twin, need_story(machine, late, story))


def first_wrong_of(machine, twin, story):
    """The same, of things that were looked at; the story may be longer than 400 news."""
    stands = stands_of(twin, story)
    for many, state in enumerate(states_along(machine[0], story)):
        if twin[2][stands[many][0]] != machine[1][state]:
            return many
    return None
