"""How many news can be needed: by numbers of news, at most, and how fast they grow."""

from math import gcd

from forgetwhen.checks import all_below, is_integer, is_tuple_of, is_within
from forgetwhen.errors import InvalidSize
from forgetwhen.gaps import Gaps
from forgetwhen.machines import need_late, need_machine
from forgetwhen.needed import needed_of
from forgetwhen.roads import most_marks, words_of_ring
from forgetwhen.web import need_gaps, need_roads, roads_of

MOST_LONG = 60


def need_many(many):
    if not is_within(many, 0, MOST_LONG):
        raise InvalidSize("many")
    return many


def marks_by(machine, late, many):
    """The greatest numbers of needed news in records of no news, of one, and so on."""
    gaps = need_gaps(machine, late)
    many = need_many(many)
    return roads_of(gaps).most_by(many)


def widest_word(machine, late, many):
    """The least of the words of so many letters with the most needed news."""
    gaps = need_gaps(machine, late)
    many = need_many(many)
    return roads_of(gaps).widest(many)


def marks_needed(machine, late):
    """The greatest number of needed news in any record, or None."""
    machine = need_machine(machine)
    return marks_of(machine, need_late(machine, late))


def marks_of(machine, late):
    """The same, of things that were looked at."""
    # Without late kinds nothing is ever needed, whatever the web is like, and it may be great then.
    if not late:
        return 0
    return most_marks(roads_of(Gaps(machine, late)))


def growth(machine, late):
    """(p, q) in lowest terms: the greatest part of a ring's steps that is needed."""
    p, q, _, _ = need_roads(machine, late).steepest()
    return (p, q)


def marks_paper(machine, late):
    """A paper that tells how many marks are needed, or how fast they grow."""
    roads = need_roads(machine, late)
    p, q, heights, ring = roads.steepest()
    rows = roads.in_rows(heights)
    if ring is None:
        most = max(heights)
        return ("level", most, rows, roads.widest(roads.first_with(most)))
    ahead, round_word, behind = words_of_ring(roads, ring)
    return ("grows", p, q, rows, ahead, round_word, behind)


def marks_hold(machine, late, value):
    """Whether any value is such a paper."""
    machine = need_machine(machine)
    late = need_late(machine, late)
    if is_tuple_of(value, 4) and value[0] == "level":
        return level_holds(machine, late, value)
    if is_tuple_of(value, 7) and value[0] == "grows":
        return grows_holds(machine, late, value)
    return False


def is_word(machine, value):
    """Whether any value is a tuple of kinds, however long."""
    return isinstance(value, tuple) and all_below(value, len(machine[0]))


def are_heights(roads, value):
    """Whether any value has an integer for each node, set by set."""
    if not is_tuple_of(value, len(roads.ends)):
        return False
    return all(is_tuple_of(row, roads.wide) and all(is_integer(height) for height in row) for row in value)


def heights_hold(roads, rows, p, q):
    """Whether heights rise along each step by what it adds, at least."""
    heights = []
    for row in rows:
        heights.extend(row)
    return all(heights[end] >= heights[begin] + q * need - p for begin, end, _, need in roads.steps)


def level_holds(machine, late, value):
    """Whether a tuple of four is a paper that tells how many marks are needed."""
    _, most, rows, word = value
    roads = roads_of(Gaps(machine, late))
    if not (is_integer(most) and is_word(machine, word) and are_heights(roads, rows)):
        return False
    if not heights_hold(roads, rows, 0, 1):
        return False
    if max(max(row) for row in rows) - min(min(row) for row in rows) > most:
        return False
    return len(needed_of(machine, late, word)) == most


def grows_holds(machine, late, value):
    """Whether a tuple of seven is a paper that tells how fast marks grow."""
    _, p, q, rows, ahead, ring, behind = value
    words = (ahead, ring, behind)
    if not (is_integer(p) and is_integer(q) and p > 0 and q > 0 and gcd(p, q) == 1):
        return False
    if not all(is_word(machine, word) for word in words):
        return False
    roads = roads_of(Gaps(machine, late))
    return are_heights(roads, rows) and heights_hold(roads, rows, p, q) and is_ring_of(machine, late, words, p, q)


def is_ring_of(machine, late, words, p, q):
    """Whether a ring stands between two words, with needed news in this measure."""
    ahead, ring, behind = words
    gaps = Gaps(machine, late)
    if not ring or not (keeps_set(gaps, ahead, ring) and keeps_relation(gaps, ring, behind)):
        return False
    first = len(ahead)
    needed = [place for place in needed_of(machine, late, (*ahead, *ring, *behind)) if first <= place]
    return len([place for place in needed if place < first + len(ring)]) * q == len(ring) * p


def keeps_set(gaps, ahead, ring):
    """Whether a word has one set with and without a ring behind it."""
    sets = gaps.sets_along(gaps.first, [gaps.maps[kind] for kind in (*ahead, *ring)])
    return sets[-1] == sets[len(ahead)]


def keeps_relation(gaps, ring, behind):
    """Whether a word has one relation with and without a ring ahead of it."""
    relations = gaps.relations_along([gaps.maps[kind] for kind in (*ring, *behind)])
    return relations[0] == relations[len(ring)]
