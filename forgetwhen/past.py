"""The past: which news can still move something, papers that tell it, and the twin that tells the past."""

from forgetwhen.checks import all_below, is_integer, is_tuple_of
from forgetwhen.errors import InvalidKind, InvalidMoment
from forgetwhen.gaps import Gaps
from forgetwhen.machines import need_late, need_machine, state_behind
from forgetwhen.needed import are_late_words, filled, need_place, need_record, sets_hold, sets_of, ways_of
from forgetwhen.roads import Roads, most_marks, words_of_ring
from forgetwhen.search import search, word_to
from forgetwhen.stories import kinds_by_moments, need_moment, need_story
from forgetwhen.twins import cut_at_gaps, is_kind_at
from forgetwhen.ways import is_word
from forgetwhen.web import need_gaps, side_of_sets


def is_moved(one, states):
    """Whether a map leads some of the states to another one."""
    return any(one[state] != state for state in states)


def moving_along(gaps, ways):
    """The places of those of a row of maps that move a state of their gap's set."""
    sets = gaps.sets_along(gaps.first, ways)
    return tuple(place for place, one in enumerate(ways) if is_moved(one, sets[place]))


def moving_of(machine, late, word):
    """The places of news that can still move something, of things that were looked at."""
    return moving_along(Gaps(machine, late), ways_of(machine, word))


def past_needed(machine, late, word):
    """The places of the news of a record that can still move something, ascending."""
    machine, late, word = need_record(machine, late, word)
    return moving_of(machine, late, word)


def past_moments(machine, late, story):
    """The moments of such news of a story's record, ascending."""
    machine = need_machine(machine)
    late = need_late(machine, late)
    news = sorted(need_story(machine, late, story))
    return tuple(news[place][0] for place in moving_of(machine, late, kinds_by_moments(news)))


def past_paper(machine, late, word, place):
    """A paper that tells whether the news at a place can still move something."""
    machine, late, word = need_record(machine, late, word)
    place = need_place(word, place)
    if place not in moving_of(machine, late, word):
        return ("still", sets_of(machine, late, word))
    return ("moves", moving_words(machine, late, word, place))


def moving_words(machine, late, word, place):
    """Fewest late words for the gaps up to the news at a place that lead to a state that it moves."""
    maps = machine[0]

    def behind(node, way):
        gap, state = node
        if way is not None:
            return (gap, maps[way][state])
        return node if gap == place else (gap + 1, maps[word[gap]][state])

    _, came, at = search(
        ((0, 0),), (*late, None), behind, found=lambda node: node[0] == place and is_moved(maps[word[place]], node[1:])
    )
    return cut_at_gaps(word_to(came, at))


def past_holds(machine, late, word, place, value):
    """Whether any value is such a paper."""
    machine, late, word = need_record(machine, late, word)
    place = need_place(word, place)
    if not is_tuple_of(value, 2):
        return False
    one = machine[0][word[place]]
    if value[0] == "moves":
        if not are_late_words(late, value[1], place + 1):
            return False
        return is_moved(one, (state_behind(machine[0], 0, filled(value[1], word[:place])),))
    if value[0] == "still":
        return still_holds(machine, late, word, value[1]) and not is_moved(one, value[1][place])
    return False


def still_holds(machine, late, word, sets):
    """Whether any value has for each gap states that hold all that comes there."""
    if not is_tuple_of(sets, len(word) + 1):
        return False
    if not all(isinstance(states, tuple) and all_below(states, len(machine[1])) for states in sets):
        return False
    return sets_hold(machine[0], late, word, sets)


class PastTwin:
    """A twin that keeps the news that can still move something, and tells the state at any moment."""

    def __init__(self, machine, late):
        self.machine = need_machine(machine)
        self.late = need_late(self.machine, late)
        self.gaps = Gaps(self.machine, self.late)
        self.news = ()

    def hear(self, moment, kind):
        """News that come into the room."""
        need_moment(moment)
        below = tuple(news for news in self.news if news[0] < moment)
        above = self.news[len(below):]
        if above and above[0][0] == moment:
            raise InvalidMoment(-1)
        if not is_kind_at(self.machine, self.late, kind, not above):
            raise InvalidKind(-1)
        news = (*below, (moment, kind), *above)
        places = moving_along(self.gaps, [self.machine[0][own] for _, own in news])
        self.news = tuple(news[place] for place in places)

    def marks(self):
        """The moments that are kept, ascending."""
        return tuple(moment for moment, _ in self.news)

    def kept_kinds(self):
        """The kinds of the marks, by moments."""
        return tuple(kind for _, kind in self.news)

    def state_then(self, moment):
        """The state that the news up to a moment lead to."""
        need_moment(moment)
        return state_behind(self.machine[0], 0, [kind for mark, kind in self.news if mark <= moment])


def moving_roads(gaps):
    """The steps between sets; those are needed that move a state."""
    sets, after, words = side_of_sets(gaps)
    moved = [[[1 if is_moved(one, states) else 0 for one in gaps.maps]] for states in sets]
    # What is behind plays no part: there is one node for all of it.
    return Roads(after, ((0,) * len(gaps.maps),), moved, (words, ((),)))


def past_marks(machine, late):
    """The greatest number of such news in any record, or None."""
    return most_marks(moving_roads(need_gaps(machine, late)))


def past_marks_paper(machine, late):
    """A paper that tells how many such news there are at most, or a ring that moves states without end."""
    roads = moving_roads(need_gaps(machine, late))
    heights, ring = roads.heights(0, 1)
    if ring is not None:
        ahead, turn, _ = words_of_ring(roads, ring)
        return ("grows", ahead, turn)
    most = max(heights)
    return ("level", most, tuple(heights), roads.widest(roads.first_with(most)))


def past_marks_hold(machine, late, value):
    """Whether any value is such a paper."""
    machine = need_machine(machine)
    late = need_late(machine, late)
    if is_tuple_of(value, 4) and value[0] == "level":
        return level_past_holds(machine, late, value)
    if is_tuple_of(value, 3) and value[0] == "grows":
        return past_ring_holds(machine, late, value[1], value[2])
    return False


def level_past_holds(machine, late, value):
    """Whether a tuple of four tells how many such news there are at most."""
    _, most, heights, word = value
    roads = moving_roads(Gaps(machine, late))
    if not (is_integer(most) and is_word(machine, word) and is_tuple_of(heights, roads.many)):
        return False
    if not all(is_integer(height) for height in heights) or max(heights) - min(heights) > most:
        return False
    if any(heights[end] < heights[begin] + moved for begin, end, _, moved in roads.steps):
        return False
    return len(moving_of(machine, late, word)) == most


def past_ring_holds(machine, late, ahead, ring):
    """Whether any values are a word, and one that leads its set to itself and moves a state on its way."""
    if not (is_word(machine, ahead) and is_word(machine, ring)):
        return False
    sets = sets_of(machine, late, (*ahead, *ring))
    if sets[-1] != sets[len(ahead)]:
        return False
    return any(place >= len(ahead) for place in moving_of(machine, late, (*ahead, *ring)))
