"""News of a record that are needed, papers that tell why, and the two stories of such a paper."""

from forgetwhen.checks import all_below, is_below, is_integer, is_tuple_of
from forgetwhen.errors import InvalidIndex, InvalidPaper, InvalidSize
from forgetwhen.gaps import Gaps, is_parted
from forgetwhen.machines import need_late, need_machine, need_word, state_behind, then
from forgetwhen.parting import parting_way
from forgetwhen.stories import MOST_NEWS, kinds_by_moments, need_story


def ways_of(machine, word):
    """The maps of a word's kinds."""
    return [machine[0][kind] for kind in word]


def sets_of(machine, late, word):
    """The sets of all gaps, of things that were looked at."""
    gaps = Gaps(machine, late)
    return gaps.sets_along(gaps.first, ways_of(machine, word))


def relations_of(machine, late, word):
    """The relations of all gaps, of things that were looked at."""
    return Gaps(machine, late).relations_along(ways_of(machine, word))


def needed_of(machine, late, word):
    """The places of needed news, of things that were looked at."""
    gaps = Gaps(machine, late)
    return gaps.needed_along(gaps.first, ways_of(machine, word))


def need_record(machine, late, word):
    machine = need_machine(machine)
    late = need_late(machine, late)
    return machine, late, need_word(machine, word)


def word_sets(machine, late, word):
    """For each gap the states that the begin comes to by what is ahead, late words put in."""
    machine, late, word = need_record(machine, late, word)
    return sets_of(machine, late, word)


def word_relations(machine, late, word):
    """For each gap the classes of states that nothing which may still come parts."""
    machine, late, word = need_record(machine, late, word)
    return relations_of(machine, late, word)


def needed_news(machine, late, word):
    """The places of the needed news of a record, ascending."""
    machine, late, word = need_record(machine, late, word)
    return needed_of(machine, late, word)


def needed_moments(machine, late, story):
    """The moments of the needed news of a story's record, ascending."""
    machine = need_machine(machine)
    late = need_late(machine, late)
    news = sorted(need_story(machine, late, story))
    return tuple(news[place][0] for place in needed_of(machine, late, kinds_by_moments(news)))


def need_place(word, value):
    if not is_below(value, len(word)):
        raise InvalidIndex(-1)
    return value


def need_paper(machine, late, word, place):
    """A paper that tells why the news at a place are needed, or free."""
    machine, late, word = need_record(machine, late, word)
    return paper_of(machine, late, word, need_place(word, place))


def paper_of(machine, late, word, place):
    """The paper, of things that were looked at; the word may be longer than 400 kinds."""
    if place not in needed_of(machine, late, word):
        return ("free", sets_of(machine, late, word), relations_of(machine, late, word))
    ahead, kind, behind, tail = parting_way(machine, late, word, place)
    return ("needed", ahead, kind, behind, tail)


def need_holds(machine, late, word, place, value):
    """Whether any value is a paper of the news at a place."""
    machine, late, word = need_record(machine, late, word)
    place = need_place(word, place)
    if is_tuple_of(value, 3) and value[0] == "free":
        return free_holds(machine, late, word, place, value)
    return needed_holds(machine, late, word, place, value)


def is_late_word(late, value):
    """Whether any value is a tuple of late kinds, however long."""
    # Sought among the late kinds alone, True would pass for 1.
    return isinstance(value, tuple) and all(is_integer(kind) and kind in late for kind in value)


def are_late_words(late, value, many):
    return is_tuple_of(value, many) and all(is_late_word(late, word) for word in value)


def filled(words, news):
    """Words for gaps, with the news between them."""
    whole = list(words[0])
    for kind, word in zip(news, words[1:]):
        whole.append(kind)
        whole.extend(word)
    return whole


def needed_holds(machine, late, word, place, value):
    """Whether any value is a paper that tells why the news at a place are needed."""
    if not is_tuple_of(value, 5) or value[0] != "needed":
        return False
    _, ahead, kind, behind, tail = value
    maps, readings = machine
    if not (are_late_words(late, ahead, place + 1) and are_late_words(late, behind, len(word) - place)):
        return False
    if not (is_late_word(late, (kind,)) and isinstance(tail, tuple) and all_below(tail, len(maps))):
        return False
    first = filled(ahead, word[:place])
    last = filled(behind, word[place + 1:])
    one = state_behind(maps, 0, [*first, kind, word[place], *last, *tail])
    other = state_behind(maps, 0, [*first, word[place], kind, *last, *tail])
    return readings[one] != readings[other]


def free_holds(machine, late, word, place, value):
    """Whether a triple is a paper that tells why the news at a place are free."""
    _, sets, relations = value
    many = len(machine[1])
    if not (is_tuple_of(sets, len(word) + 1) and is_tuple_of(relations, len(word) + 1)):
        return False
    if not all(isinstance(states, tuple) and all_below(states, many) for states in sets):
        return False
    if not all(is_tuple_of(classes, many) and all_below(classes, many) for classes in relations):
        return False
    if not (sets_hold(machine[0], late, word, sets) and relations_hold(machine, late, word, relations)):
        return False
    return not is_parted(machine[0], late, machine[0][word[place]], sets[place], relations[place + 1])


def leads_into(one, states, behind):
    return all(one[state] in behind for state in states)


def sets_hold(maps, late, word, sets):
    """Whether 0 is in the first set, and each has what leads there."""
    if 0 not in sets[0]:
        return False
    for gap, states in enumerate(sets):
        if not all(leads_into(maps[kind], states, states) for kind in late):
            return False
        if gap < len(word) and not leads_into(maps[word[gap]], states, sets[gap + 1]):
            return False
    return True


def keeps_alike(classes, row):
    """Whether states of one class have one value in the row."""
    told = {}
    for name, value in zip(classes, row):
        if told.setdefault(name, value) != value:
            return False
    return True


def relations_hold(machine, late, word, relations):
    """Whether what is alike in a gap leads to what is alike, and on end to like readings."""
    maps, readings = machine
    ends = relations[-1]
    if not (keeps_alike(ends, readings) and all(keeps_alike(ends, then(one, ends)) for one in maps)):
        return False
    for gap, classes in enumerate(relations):
        if not all(keeps_alike(classes, then(maps[kind], classes)) for kind in late):
            return False
        if gap < len(word) and not keeps_alike(classes, then(maps[word[gap]], relations[gap + 1])):
            return False
    return True


def two_stories(machine, late, story, place, value):
    """Two stories of unlike readings that are heard alike by whoever does not keep the news at a place."""
    machine = need_machine(machine)
    late = need_late(machine, late)
    story = need_story(machine, late, story)
    word = tuple(kinds_by_moments(story))
    place = need_place(word, place)
    if not needed_holds(machine, late, word, place, value):
        raise InvalidPaper(-1)
    one, other = stories_of(story, place, value)
    if len(one) > MOST_NEWS:
        raise InvalidSize("news")
    return (one, other)


def stories_of(story, place, paper):
    """The two stories of a paper that holds, however long."""
    _, ahead, kind, behind, tail = paper
    words = ahead + behind
    moments, put, below, above, last = gap_moments(sorted(story), place, words)
    heard = [*[(moments[moment], own) for moment, own in story], *put]
    on_end = [(last + at, own) for at, own in enumerate(tail)]
    return ((*heard, (below, kind), *on_end), (*heard, (above, kind), *on_end))


def gap_moments(news, place, words):
    """The least moments for words in the gaps of a record, and for one news more around its place.

    (for each moment of the record the new one, the news of the words, the moment just below the news at the
    place, the one just above, the first one behind all)
    """
    moments = {}
    put = []
    free = below = above = 0
    for gap, letters in enumerate(words):
        for kind in letters:
            put.append((free, kind))
            free += 1
        if gap == place:
            below = free
            free += 1
        if gap < len(news):
            moments[news[gap][0]] = free
            free += 1
        if gap == place:
            above = free
            free += 1
    return moments, put, below, above, free
