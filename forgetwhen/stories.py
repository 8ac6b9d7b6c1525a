"""Stories of news as they are heard, their records, and what is right to be shown."""

from forgetwhen.checks import is_below, is_row_of, is_row_within
from forgetwhen.digits import nth_row, row_count, row_number
from forgetwhen.errors import InvalidIndex, InvalidMoment, InvalidPlaces, InvalidSize, InvalidStory
from forgetwhen.machines import map_of, need_late, need_machine, state_behind

MOMENTS = 1000000
MOST_NEWS = 400


def need_moment(value):
    if not is_below(value, MOMENTS):
        raise InvalidMoment(-1)
    return value


def is_news(machine, value):
    """Whether any value is a pair of a moment and a kind."""
    return is_row_of(value, 2) and is_below(value[0], MOMENTS) and is_below(value[1], len(machine[0]))


def need_story(machine, late, value):
    """The story, in tuples."""
    machine = need_machine(machine)
    late = need_late(machine, late)
    if not is_row_within(value, 0, MOST_NEWS):
        raise InvalidStory(-1)
    story = []
    heard = {}
    greatest = -1
    for at, news in enumerate(value):
        if not is_news(machine, news):
            raise InvalidStory(at)
        moment, kind = news
        if moment in heard or (moment < greatest and kind not in late):
            raise InvalidStory(at)
        heard[moment] = True
        greatest = max(greatest, moment)
        story.append((moment, kind))
    return tuple(story)


def kinds_by_moments(news):
    """The word of a record, of news in any order."""
    return [heard[1] for heard in sorted(news)]


def record(machine, late, story):
    """The news of a story by their moments."""
    return tuple(sorted(need_story(machine, late, story)))


def story_states(machine, late, story):
    """The states behind each beginning of a story, from none to all news."""
    machine = need_machine(machine)
    return states_along(machine[0], need_story(machine, late, story))


def states_along(maps, story):
    """The states behind each beginning, of things that were looked at; the story may be longer than 400 news."""
    states = []
    for many in range(len(story) + 1):
        states.append(state_behind(maps, 0, kinds_by_moments(story[:many])))
    return tuple(states)


def story_readings(machine, late, story):
    """What is right to be shown behind each beginning of a story."""
    machine = need_machine(machine)
    return tuple(machine[1][state] for state in story_states(machine, late, story))


def state_at(machine, late, story, moment):
    """Where the news up to a moment lead, this one too."""
    machine = need_machine(machine)
    story = need_story(machine, late, story)
    moment = need_moment(moment)
    return state_behind(machine[0], 0, kinds_by_moments([news for news in story if news[0] <= moment]))


def cut_maps(machine, late, story, moment):
    """The map of the news below a moment, and that of the others."""
    machine = need_machine(machine)
    story = need_story(machine, late, story)
    moment = need_moment(moment)
    below = kinds_by_moments([news for news in story if news[0] < moment])
    others = kinds_by_moments([news for news in story if news[0] >= moment])
    return (map_of(machine, below), map_of(machine, others))


def late_by(machine, late, story):
    """For each news how many heard ahead of it have greater moments."""
    places = story_places(machine, late, story)
    return tuple(at - pair[0] for at, pair in enumerate(places))


def story_places(machine, late, story):
    """For each news (how many heard ahead of it have lesser moments, kind)."""
    story = need_story(machine, late, story)
    places = []
    for at, (moment, kind) in enumerate(story):
        below = [news for news in story[:at] if news[0] < moment]
        places.append((len(below), kind))
    return tuple(places)


def is_place(machine, late, value, ahead):
    """Whether any value is a pair of a place, behind so many news, and a kind."""
    if not is_row_of(value, 2):
        return False
    place, kind = value
    if not (is_below(place, ahead + 1) and is_below(kind, len(machine[0]))):
        return False
    return place == ahead or kind in late


def places_story(machine, late, places):
    """The story of such pairs whose moments are the numbers below its length."""
    machine = need_machine(machine)
    late = need_late(machine, late)
    if not is_row_within(places, 0, MOST_NEWS):
        raise InvalidPlaces(-1)
    order = []
    for at, pair in enumerate(places):
        if not is_place(machine, late, pair, at):
            raise InvalidPlaces(at)
        order.insert(pair[0], at)
    moments = {at: moment for moment, at in enumerate(order)}
    return tuple((moments[at], pair[1]) for at, pair in enumerate(places))


def plain_story(machine, late, story):
    """The story with like places whose moments are the numbers below its length."""
    return places_story(machine, late, story_places(machine, late, story))


def place_bases(machine, late, many):
    """How many pairs of a place and a kind there are for each of so many news."""
    return [len(late) * ahead + len(machine[0]) for ahead in range(many)]


def story_bases(machine, late, many):
    if not is_below(many, MOST_NEWS + 1):
        raise InvalidSize("news")
    return place_bases(machine, late, many)


def story_count(machine, late, many):
    """How many plain stories of so many news there are."""
    machine = need_machine(machine)
    late = need_late(machine, late)
    return row_count(story_bases(machine, late, many))


def place_of_digit(late, ahead, digit):
    """The pair of a number among those behind so many news, ascending."""
    if digit < len(late) * ahead:
        return (digit // len(late), late[digit % len(late)])
    return (ahead, digit - len(late) * ahead)


def digit_of_place(late, ahead, place, kind):
    """The number of a pair among those behind so many news, ascending."""
    if place < ahead:
        return len(late) * place + late.index(kind)
    return len(late) * ahead + kind


def nth_story(machine, late, many, number):
    """The plain story of a number, rows of places ascending."""
    machine = need_machine(machine)
    late = need_late(machine, late)
    bases = story_bases(machine, late, many)
    if not is_below(number, row_count(bases)):
        raise InvalidIndex(-1)
    digits = nth_row(bases, number)
    places = [place_of_digit(late, ahead, digit) for ahead, digit in enumerate(digits)]
    return places_story(machine, late, places)


def story_number(machine, late, story):
    """The number of its plain story among those of as many news."""
    machine = need_machine(machine)
    late = need_late(machine, late)
    places = story_places(machine, late, story)
    digits = [digit_of_place(late, ahead, place, kind) for ahead, (place, kind) in enumerate(places)]
    return row_number(place_bases(machine, late, len(places)), digits)
