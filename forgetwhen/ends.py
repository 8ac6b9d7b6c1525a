"""What the ends of a word tell, where all kinds may come late: its first and last news of each kind."""

from forgetwhen.checks import is_below, is_row_of, is_within
from forgetwhen.errors import InvalidAsked, InvalidSize
from forgetwhen.late import late_fault
from forgetwhen.least import class_rounds, need_least
from forgetwhen.machines import MOST_KINDS, MOST_STATES, need_word
from forgetwhen.maps import ring_of_powers
from forgetwhen.search import search

MOST_COUNTED = 8


def places_of_kinds(kinds, word):
    """For each kind the places of its news."""
    places = [[] for _ in range(kinds)]
    for place, kind in enumerate(word):
        places[kind].append(place)
    return places


def need_ended(machine, word):
    machine = need_least(machine)
    return machine, need_word(machine, word)


def cut_places(machine, word):
    """For each kind the places of its first news, of its further ones, and of its last ones."""
    states = len(machine[1])
    cut = []
    for places in places_of_kinds(len(machine[0]), word):
        first = min(max(states - 2, 0), len(places))
        last = max(first, len(places) - (states - 1))
        cut.append((places[:first], places[first:last], places[last:]))
    return cut


def end_places(machine, word):
    """The places of a word's ends, ascending."""
    machine, word = need_ended(machine, word)
    ends = []
    for first, _, last in cut_places(machine, word):
        ends.extend([*first, *last])
    return tuple(sorted(ends))


def end_word(machine, word):
    """The ends of a word in their order, with few enough of each kind's further news."""
    machine, word = need_ended(machine, word)
    further = {}
    ends = []
    for kind, (first, between, last) in enumerate(cut_places(machine, word)):
        ends.extend([*first, *last])
        # Where there are no ends, in a machine of one state, nothing is told at all.
        if between and last:
            further[last[0]] = as_few(machine[0][kind], len(between))
    letters = []
    for place in sorted(ends):
        letters.extend([word[place]] * (further.get(place, 0) + 1))
    return tuple(letters)


def as_few(one, many):
    """The fewest times of a map that are so many times it, round its ring of powers."""
    lead, turn = ring_of_powers(one)
    if many < lead + turn:
        return many
    return lead + (many - lead) % turn


def ends_apart(machine):
    """Two words of one end word whose maps are unlike, or None."""
    machine = need_least(machine)
    fault = late_fault(machine)
    if fault is None:
        return None
    name, *words = fault
    if name == "parted":
        turn, one, other = words
        middles = ((*one, *other, *turn), (*one, *turn, *other))
    else:
        one, undone, other = words
        turn = (*one, *undone)
        middles = ((*one, *turn, *other), (*other, *turn, *one))
    outside = turn * len(machine[1])
    return tuple((*outside, *middle, *outside) for middle in middles)


def need_kinds(kinds):
    if not is_within(kinds, 1, MOST_KINDS):
        raise InvalidSize("kinds")
    return kinds


def is_asked_news(kinds, value):
    """Whether any value is (kind, number, side)."""
    return is_row_of(value, 3) and is_below(value[0], kinds) and is_below(value[1], 2) and is_below(value[2], 2)


def need_asked(kinds, value):
    """The question, in tuples."""
    if not is_row_of(value, 3):
        raise InvalidAsked(-1)
    name, one, other = value
    if name == "ahead":
        for at, news in enumerate((one, other)):
            if not is_asked_news(kinds, news):
                raise InvalidAsked(at + 1)
        return (name, tuple(one), tuple(other))
    if name != "count":
        raise InvalidAsked(0)
    if not is_below(one, kinds):
        raise InvalidAsked(1)
    if not is_within(other, 1, MOST_COUNTED):
        raise InvalidAsked(2)
    return (name, one, other)


def plain_machine(kinds):
    """Any machine of so many kinds."""
    return (((0,),) * kinds, (0,))


def question_answer(kinds, question, word):
    """The answer to a question of ends, for a word of so many kinds."""
    kinds = need_kinds(kinds)
    question = need_asked(kinds, question)
    return answer_of(question, need_word(plain_machine(kinds), word))


def answer_of(question, word):
    """The answer, of things that were looked at."""
    name, one, other = question
    if name == "count":
        return len([kind for kind in word if kind == one]) % other
    one, other = [place_asked(news, word) for news in (one, other)]
    if one is None or other is None:
        return 0
    return 1 if one < other else 0


def place_asked(news, word):
    """The place of news that are asked for, or None."""
    kind, number, side = news
    places = [place for place, letter in enumerate(word) if letter == kind]
    if number >= len(places):
        return None
    return places[-1 - number] if side == 1 else places[number]


def word_kept(question, word):
    """The letters of a word that can still tell: what is dropped never does again."""
    name, one, other = question
    if name == "count":
        counted = [kind for kind in word if kind == one]
        return tuple(counted[:len(counted) % other])
    kept = []
    for kind in sorted(set([one[0], other[0]])):
        places = [place for place, letter in enumerate(word) if letter == kind]
        kept.extend(sorted(set(places[:2] + places[-2:])))
    return tuple(word[place] for place in sorted(kept))


def question_machine(kinds, question):
    """The least machine whose reading behind each word is the answer."""
    kinds = need_kinds(kinds)
    question = need_asked(kinds, question)
    every = tuple(range(kinds))
    words, _, _ = search(((),), every, lambda word, kind: word_kept(question, (*word, kind)))
    numbers = {word: number for number, word in enumerate(words)}
    maps = [[numbers[word_kept(question, (*word, kind))] for word in words] for kind in every]
    answers = [answer_of(question, word) for word in words]
    classes = class_rounds(answers, maps)[-1]
    if max(classes) >= MOST_STATES:
        raise InvalidSize("states")
    # The words stand as first come to: so do the classes.
    first = [classes.index(name) for name in range(max(classes) + 1)]
    least_maps = tuple(tuple(classes[one[number]] for number in first) for one in maps)
    return (least_maps, tuple(answers[number] for number in first))
