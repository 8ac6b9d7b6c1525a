"""The web of what is needed: all sets and relations of words, and the steps between them."""

from forgetwhen.gaps import Gaps
from forgetwhen.machines import need_late, need_machine, need_word
from forgetwhen.roads import Roads, side_of, turned


def need_gaps(machine, late):
    machine = need_machine(machine)
    return Gaps(machine, need_late(machine, late))


def side_of_sets(gaps):
    """(sets, after, words), kinds put behind."""
    kinds = tuple(range(len(gaps.maps)))
    return side_of(gaps.first, kinds, lambda states, kind: gaps.states_behind(states, gaps.maps[kind]))


def side_of_relations(gaps):
    """(relations, before, words from their last letter to the first one), kinds put ahead."""
    kinds = tuple(range(len(gaps.maps)))
    return side_of(gaps.last, kinds, lambda classes, kind: gaps.classes_ahead(gaps.maps[kind], classes))


def forward_sets(machine, late):
    """All sets of words, as first come to from that of the empty word."""
    sets, _, _ = side_of_sets(need_gaps(machine, late))
    return tuple(sets)


def set_words(machine, late):
    """For each set the word by which it is first come to."""
    _, _, words = side_of_sets(need_gaps(machine, late))
    return words


def backward_relations(machine, late):
    """All relations of words, as first come to from that of the empty word."""
    relations, _, _ = side_of_relations(need_gaps(machine, late))
    return tuple(relations)


def relation_words(machine, late):
    """For each relation the word by which it is first come to."""
    _, _, words = side_of_relations(need_gaps(machine, late))
    return turned(words)


def web(machine, late):
    """(sets, relations, after, before, needed): the steps between sets, between relations, and which are needed."""
    return web_of(need_gaps(machine, late))


def web_of(gaps):
    """The web, of things that were looked at."""
    sets, after, _ = side_of_sets(gaps)
    relations, before, _ = side_of_relations(gaps)
    return (tuple(sets), tuple(relations), after, before, needed_between(gaps, sets, relations))


def roads_of(gaps):
    """The steps of the web."""
    sets, after, ahead = side_of_sets(gaps)
    relations, before, behind = side_of_relations(gaps)
    return Roads(after, before, needed_between(gaps, sets, relations), (ahead, turned(behind)))


def need_roads(machine, late):
    return roads_of(need_gaps(machine, late))


def needed_between(gaps, sets, relations):
    """For each set, relation and kind 1 if the step is needed, else 0."""
    return tuple(tuple(needed_row_of(gaps, states, classes) for classes in relations) for states in sets)


def needed_row_of(gaps, states, classes):
    """For each kind 1 if its step between a set and a relation is needed, else 0."""
    return tuple(1 if gaps.is_needed(states, one, classes) else 0 for one in gaps.maps)


def web_way(machine, late, word):
    """(nodes, flags): the node of each gap of a word, and for each letter whether its step is needed."""
    gaps = need_gaps(machine, late)
    word = need_word(machine, word)
    _, _, after, before, needed = web_of(gaps)
    ahead = [0]
    for kind in word:
        ahead.append(after[ahead[-1]][kind])
    behind = [0]
    for kind in reversed(word):
        behind.append(before[behind[-1]][kind])
    behind = list(reversed(behind))
    flags = tuple(needed[ahead[at]][behind[at + 1]][kind] for at, kind in enumerate(word))
    return (tuple(zip(ahead, behind)), flags)


def all_steps(whole):
    """All steps (i, j, k) of a web, ascending."""
    sets, relations, after, _, _ = whole
    kinds = tuple(range(len(after[0])))
    return [(i, j, k) for i in range(len(sets)) for j in range(len(relations)) for k in kinds]


def standing_steps(machine, late):
    """The needed steps that lead their node to itself, ascending."""
    whole = web(machine, late)
    _, _, after, before, needed = whole
    return tuple(
        (i, j, k) for i, j, k in all_steps(whole) if needed[i][j][k] == 1 and after[i][k] == i and before[j][k] == j
    )
