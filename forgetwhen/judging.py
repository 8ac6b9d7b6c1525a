"""How a twin is judged: where it can stand, each time with the row of what its marks tell."""

from forgetwhen.checks import is_below, is_tuple_of
from forgetwhen.errors import InvalidTwin
from forgetwhen.gaps import Gaps
from forgetwhen.needed import paper_of, stories_of
from forgetwhen.rows import empty_row, form_of_row, is_marked_row, needed_of_row, row_of_kept, row_with, state_of_row
from forgetwhen.stories import MOMENTS
from forgetwhen.tables import first_wrong_of
from forgetwhen.twins import rows_paper


class Stand:
    """Where a twin stands behind a story: its word, the row of its marks, and the story.

    News are numbered as they were heard: order has the numbers by their moments, kinds the kinds by numbers,
    numbers those of the marks.
    """

    def __init__(self, word, held, order, kinds, numbers):
        self.word = word
        self.held = held
        self.order = order
        self.kinds = kinds
        self.numbers = numbers

    def put_in(self, place, kind):
        """(order, kinds) with news more, at the end of the gap behind so many marks."""
        return order_with(self.order, self.numbers, place, len(self.kinds)), (*self.kinds, kind)

    def story(self):
        return story_of(self.order, self.kinds)

    def story_on(self, words, tail):
        """The story with words for the gaps between its marks, and one on end."""
        order, kinds = self.order, self.kinds
        for place, word in enumerate((*words, tail)):
            for kind in word:
                order = order_with(order, self.numbers, place, len(kinds))
                kinds = (*kinds, kind)
        return story_of(order, kinds)


def order_with(order, numbers, place, number):
    """The order with a number more, at the end of the gap behind so many of the numbers that are marks."""
    at = order.index(numbers[place]) if place < len(numbers) else len(order)
    return (*order[:at], number, *order[at:])


def story_of(order, kinds):
    """The story of these news, moments from 0 on."""
    moments = {number: moment for moment, number in enumerate(order)}
    return tuple((moments[number], kind) for number, kind in enumerate(kinds))


def is_wrong_along(machine, twin, story):
    """Whether a twin shows a story wrong, or has no rules where they are wanted."""
    try:
        return first_wrong_of(machine, twin, story) is not None
    except InvalidTwin:
        return True


def wrong_one(machine, twin, stories):
    """The paper of the first of these stories that the twin shows wrong; there must be one."""
    wrong = [story for story in stories if is_wrong_along(machine, twin, story)]
    return ("wrong", wrong[0])


def all_news(machine, late, many):
    """The pairs (place, kind) of news that may come where there are so many marks."""
    places = [(place, kind) for place in range(many) for kind in late]
    return places + [(many, kind) for kind in range(len(machine[0]))]


def judged(machine, late, twin):
    """The paper that judges a twin."""
    gaps = Gaps(machine, late)
    first = Stand(twin[0], empty_row(machine), (), (), ())
    stands = [first]
    met = {(first.word, 0): first}
    at = 0
    while at < len(stands):
        stand = stands[at]
        if twin[2][stand.word] != machine[1][state_of_row(machine[0], stand.held)]:
            return ("wrong", stand.story())
        for place, kind in all_news(machine, late, len(stand.numbers)):
            behind, story = stand_behind(gaps, twin, stand, place, kind)
            if behind is None:
                return wrong_paper(machine, late, twin, story)
            key = (behind.word, len(behind.numbers))
            if key not in met:
                met[key] = behind
                stands.append(behind)
            elif form_of_row(gaps, met[key].held) != form_of_row(gaps, behind.held):
                return unlike_paper(machine, late, twin, met[key], behind)
        at += 1
    return ("right", tuple((stand.word, stand.held) for stand in stands))


def stand_behind(gaps, twin, stand, place, kind):
    """(stand with news more, None), or (None, (order, kinds, number of news that are forgotten)).

    The number is None where rules are wanted that are not told.
    """
    order, kinds = stand.put_in(place, kind)
    rules = twin[1][stand.word][len(stand.numbers)]
    if not rules:
        return None, (order, kinds, None)
    word, kept = rules[place][kind]
    row = row_with(stand.held, place, kind)
    marks = (*stand.numbers[:place], len(stand.kinds), *stand.numbers[place:])
    for number in needed_of_row(gaps, row):
        if number not in kept:
            return None, (order, kinds, marks[number])
    marks = tuple(marks[number] for number in kept)
    return Stand(word, row_of_kept(gaps.maps, row, kept), order, kinds, marks), None


def wrong_paper(machine, late, twin, story):
    """The paper of a story behind which rules are not told, or needed news are forgotten."""
    order, kinds, forgotten = story
    heard = story_of(order, kinds)
    if forgotten is None:
        return ("wrong", heard)
    word = [kinds[number] for number in order]
    place = order.index(forgotten)
    return wrong_one(machine, twin, stories_of(heard, place, paper_of(machine, late, word, place)))


def unlike_paper(machine, late, twin, one, other):
    """The paper of two stories that a twin hears alike, though their rows tell unlike things."""
    _, words, tail = rows_paper(machine, late, one.held, other.held)
    return wrong_one(machine, twin, [stand.story_on(words, tail) for stand in (one, other)])


def is_stand(machine, twin, value):
    """Whether any value is a pair of a word and a row of no more marks than the twin may have."""
    if not (is_tuple_of(value, 2) and is_below(value[0], len(twin[1]))):
        return False
    row = value[1]
    if not (is_tuple_of(row, 2) and isinstance(row[0], tuple) and isinstance(row[1], tuple)):
        return False
    if not all(isinstance(one, tuple) for one in row[0]):
        return False
    return is_marked_row(machine, row) and len(row[1]) < len(twin[1][0])


def right_holds(machine, late, twin, stands):
    """Whether any value has the words and rows where a twin can stand, and it is right at each."""
    if not isinstance(stands, tuple) or not all(is_stand(machine, twin, stand) for stand in stands):
        return False
    gaps = Gaps(machine, late)
    told = {(word, form_of_row(gaps, row)): True for word, row in stands}
    if (twin[0], form_of_row(gaps, empty_row(machine))) not in told:
        return False
    return all(goes_on(gaps, machine, late, twin, stand, told) for stand in stands)


def goes_on(gaps, machine, late, twin, stand, told):
    """Whether a twin is right where it stands, and whatever comes leads to what is told."""
    word, row = stand
    if twin[2][word] != machine[1][state_of_row(machine[0], row)]:
        return False
    rules = twin[1][word][len(row[1])]
    if not rules:
        return False
    for place, kind in all_news(machine, late, len(row[1])):
        behind, kept = rules[place][kind]
        more = row_with(row, place, kind)
        if not all(number in kept for number in needed_of_row(gaps, more)):
            return False
        if (behind, form_of_row(gaps, row_of_kept(gaps.maps, more, kept))) not in told:
            return False
    return True


def is_any_story(machine, late, value):
    """Whether any value is a story in tuples, of any length."""
    if not isinstance(value, tuple):
        return False
    heard = {}
    greatest = -1
    for news in value:
        if not (is_tuple_of(news, 2) and is_below(news[0], MOMENTS) and is_below(news[1], len(machine[0]))):
            return False
        moment, kind = news
        if moment in heard or (moment < greatest and kind not in late):
            return False
        heard[moment] = True
        greatest = max(greatest, moment)
    return True


def wrong_holds(machine, late, twin, story):
    """Whether any value is a story that a twin shows wrong, or for which it lacks rules."""
    return is_any_story(machine, late, story) and is_wrong_along(machine, twin, story)
