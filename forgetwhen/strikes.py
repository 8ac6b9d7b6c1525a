"""What tables of twins do when news are withdrawn, and two stories by which every table is deceived."""

from forgetwhen.checks import is_below, is_row_of
from forgetwhen.doubles import stories_amid, stories_beyond
from forgetwhen.errors import InvalidTwin, Refused
from forgetwhen.tables import is_kept, need_twin, twin_step
from forgetwhen.ways import marks_of
from forgetwhen.withdrawn import both_lots, first_without_back, need_three, need_withdrawn


def need_strike(value, words, kinds, number, word):
    """What becomes of so many marks, in tuples: for each kind that may be withdrawn a word and what is kept."""
    if not is_row_of(value, kinds):
        raise InvalidTwin(word)
    pairs = []
    for pair in value:
        if not (is_row_of(pair, 2) and is_below(pair[0], words) and is_kept(pair[1], number, number)):
            raise InvalidTwin(word)
        pairs.append((pair[0], tuple(pair[1])))
    return tuple(pairs)


def need_strikes_of(value, words, kinds, number, word):
    """The strikes of a word for so many marks, in tuples: empty, or place by place, mark by mark."""
    if not (is_row_of(value, 0) or is_row_of(value, 2 * number + 1)):
        raise InvalidTwin(word)
    return tuple(need_strike(row, words, kinds, number, word) for row in value)


def need_strikes(machine, gone, twin, value):
    """The strikes of a table, in tuples."""
    machine, _, gone = need_three(machine, (), gone)
    twin = need_twin(machine, twin)
    return strikes_in_tuples(gone, twin, value)


def strikes_in_tuples(gone, twin, value):
    """The strikes, of any value and a table that was looked at."""
    _, rules, _ = twin
    if not is_row_of(value, len(rules)):
        raise InvalidTwin(-1)
    told = []
    for word, row in enumerate(value):
        if not is_row_of(row, len(rules[0])):
            raise InvalidTwin(word)
        told.append(tuple(
            need_strikes_of(places, len(rules), len(gone), number, word) for number, places in enumerate(row)
        ))
    return tuple(told)


def need_struck(machine, late, gone, twin, strikes):
    """The arguments that tell of a table with strikes, in tuples."""
    machine, late, gone = need_three(machine, late, gone)
    twin = need_twin(machine, twin)
    return machine, late, gone, twin, strikes_in_tuples(gone, twin, strikes)


def strike_step(strikes, gone, word, marks, moment, kind):
    """(word, marks) behind withdrawn news, of strikes that were looked at."""
    places = strikes[word][len(marks)]
    if not places:
        raise InvalidTwin(word)
    below = len([mark for mark in marks if mark < moment])
    row = places[2 * below + 1] if moment in marks else places[2 * below]
    behind, kept = row[gone.index(kind)]
    return behind, tuple(marks[number] for number in kept)


def stands_of_deeds(twin, strikes, gone, story):
    """(word, marks) behind each beginning of a story with withdrawn news, of things that were looked at."""
    word, marks = twin[0], ()
    stands = [(word, marks)]
    for moment, kind, done in story:
        if done == 1:
            word, marks = strike_step(strikes, gone, word, marks, moment, kind)
        else:
            word, marks = twin_step(twin, word, marks, moment, kind)
        stands.append((word, marks))
    return tuple(stands)


def withdrawn_stands(machine, late, gone, twin, strikes, story):
    """(word, marks) behind each beginning of a story with withdrawn news."""
    machine, late, gone, twin, strikes = need_struck(machine, late, gone, twin, strikes)
    return stands_of_deeds(twin, strikes, gone, need_withdrawn(machine, late, gone, story))


def withdrawn_stories(machine, late, gone, twin, strikes):
    """Two stories at whose ends a table has one word and as many marks, though unlike readings are right."""
    machine, late, gone, twin, strikes = need_struck(machine, late, gone, twin, strikes)
    fixed = first_without_back(machine, gone)
    if fixed is not None:
        stories = stories_beyond(machine, twin, fixed)
    elif marks_of(machine, both_lots(late, gone)) is None:
        stories = stories_amid(machine, late, gone, twin)
    else:
        raise Refused(-1)
    # Where rules or strikes are wanted that are not told, there are no such ends.
    for story in stories:
        stands_of_deeds(twin, strikes, gone, story)
    return stories
