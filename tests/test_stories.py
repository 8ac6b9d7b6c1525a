"""Promises [9] and [10]."""

import itertools

from forgetwhen.errors import (
    InvalidIndex, InvalidLate, InvalidMachine, InvalidMoment, InvalidPlaces, InvalidSize, InvalidStory,
)
from forgetwhen.machines import map_then, word_map
from forgetwhen.stories import (
    cut_maps, late_by, need_moment, need_story, nth_story, places_story, plain_story, record, state_at, story_count,
    story_number, story_places, story_readings, story_states,
)
from tests.support import EIGHT, LATCH, ODD_VALUES, VALVE, Case, Chance, as_lists, lots_of, mixed_machines, run

LATE_STORY = ((20, 1), (30, 0), (10, 0), (25, 0))
RISING = tuple((moment, moment % 2) for moment in range(400))
FALLING = tuple((399 - at, at % 2) for at in range(400))


def stories(seed, count=40):
    """(machine, late, story) of many forms."""
    chance = Chance(seed)
    rows = []
    for machine in mixed_machines(count, seed):
        late = chance.lot(len(machine[0]))
        rows.append((machine, late, chance.story(machine, late, chance.below(9), 30)))
    return rows


def kinds_of(news):
    return [kind for _, kind in sorted(news)]


class NeedStoryTest(Case):
    def test_stories(self):
        for story in ((), ((0, 0),), ((999999, 1),), LATE_STORY):
            self.is_just(need_story(VALVE, (0,), story), story)
            self.is_just(need_story(VALVE, [0], as_lists(story)), story)
        self.is_just(need_story(VALVE, (), RISING), RISING)
        self.is_just(need_story(VALVE, (0, 1), FALLING), FALLING)
        self.is_just(need_story(VALVE, (1, 0), [[5, 0], (3, 1)]), ((5, 0), (3, 1)))

    def test_too_many(self):
        self.refuses(InvalidStory, -1, need_story, VALVE, (), RISING + ((400, 0),))
        self.refuses(InvalidStory, -1, need_story, VALVE, (), ((0, 7),) * 401)
        for value in (None, 3, True, "ab", ""):
            self.refuses(InvalidStory, -1, need_story, VALVE, (), value)

    def test_no_news(self):
        for wrong in (
            None, 0, "00", (), (0,), (1, 0, 0), (-1, 0), (1000000, 0), (True, 0), (1, True), (1, 2), (1, -1),
            ("1", 0), (1, None), ([1], 0), [1, [0]],
        ):
            self.refuses(InvalidStory, 0, need_story, VALVE, (0, 1), (wrong,))
            self.refuses(InvalidStory, 1, need_story, VALVE, (0, 1), ((9, 0), wrong, wrong))
        for value in ODD_VALUES:
            self.refuses(InvalidStory, 2, need_story, VALVE, (0, 1), ((9, 0), (8, 0), value))

    def test_two_like_moments(self):
        self.refuses(InvalidStory, 1, need_story, VALVE, (0, 1), ((9, 0), (9, 0)))
        self.refuses(InvalidStory, 2, need_story, VALVE, (0, 1), ((9, 0), (8, 0), (9, 1), (8, 1)))
        self.refuses(InvalidStory, 1, need_story, VALVE, (), ((9, 0), (9, 0)))

    def test_prompt_kinds_that_come_late(self):
        self.refuses(InvalidStory, 1, need_story, VALVE, (), ((9, 0), (8, 0)))
        self.refuses(InvalidStory, 2, need_story, VALVE, (0,), ((9, 1), (8, 0), (8, 1)))
        self.refuses(InvalidStory, 2, need_story, VALVE, (0,), ((9, 0), (7, 0), (8, 1)))
        self.is_just(need_story(VALVE, (0,), ((9, 0), (7, 0), (10, 1))), ((9, 0), (7, 0), (10, 1)))

    def test_order_of_errors(self):
        self.refuses(InvalidMachine, -1, need_story, 0, 0, 0)
        self.refuses(InvalidLate, -1, need_story, VALVE, 0, 0)
        self.refuses(InvalidLate, 1, need_story, VALVE, (1, 1), 0)

    def test_moments(self):
        for moment in (0, 1, 999999):
            self.is_just(need_moment(moment), moment)
        for value in (-1, 1000000, True, False, None, "1", (1,), 10 ** 30):
            self.refuses(InvalidMoment, -1, need_moment, value)


class RightTest(Case):
    def test_examples(self):
        self.is_just(record(VALVE, (0,), LATE_STORY), ((10, 0), (20, 1), (25, 0), (30, 0)))
        self.is_just(story_states(VALVE, (0,), LATE_STORY), (0, 0, 1, 1, 0))
        self.is_just(story_readings(LATCH, (0,), ((5, 1), (3, 0), (7, 0))), (0, 0, 0, 1))
        self.is_just(late_by(VALVE, (0,), LATE_STORY), (0, 0, 2, 1))
        self.is_just(record(VALVE, (), ()), ())
        self.is_just(story_states(VALVE, (), ()), (0,))
        self.is_just(story_readings(((EIGHT[0][0],), EIGHT[1]), (), ()), (99,))

    def test_by_force(self):
        for machine, late, story in stories(20):
            self.is_just(record(machine, late, story), tuple(sorted(story)))
            behind = tuple(run(machine, 0, kinds_of(story[:many])) for many in range(len(story) + 1))
            self.is_just(story_states(machine, late, story), behind)
            self.is_just(story_readings(machine, late, story), tuple(machine[1][state] for state in behind))
            lateness = tuple(
                len([other for other in story[:at] if other[0] > news[0]]) for at, news in enumerate(story)
            )
            self.is_just(late_by(machine, late, story), lateness)

    def test_around_moments(self):
        for machine, late, story in stories(21):
            heard = [moment for moment, _ in story]
            for moment in {0, 999999, *heard, *(one + 1 for one in heard), *(max(0, one - 1) for one in heard)}:
                below = kinds_of([news for news in story if news[0] < moment])
                others = kinds_of([news for news in story if news[0] >= moment])
                upto = kinds_of([news for news in story if news[0] <= moment])
                self.is_just(state_at(machine, late, story, moment), run(machine, 0, upto))
                maps = cut_maps(machine, late, story, moment)
                self.is_just(maps, (word_map(machine, below), word_map(machine, others)))
                self.assertEqual(map_then(machine, *maps)[0], story_states(machine, late, story)[-1])

    def test_late_news_heard_next(self):
        for machine, late, story in stories(22):
            for kind in late:
                for moment in range(31):
                    if moment not in [news[0] for news in story]:
                        below, others = cut_maps(machine, late, story, moment)
                        longer = story_states(machine, late, story + ((moment, kind),))
                        self.assertEqual(longer[-1], others[machine[0][kind][below[0]]])

    def test_below_all_and_above_all(self):
        story = ((20, 1), (30, 0))
        self.is_just(state_at(VALVE, (), story, 19), 0)
        self.is_just(state_at(VALVE, (), story, 30), 1)
        self.is_just(state_at(VALVE, (), story, 999999), 1)
        self.is_just(cut_maps(VALVE, (), story, 20), ((0, 1), (1, 1)))
        self.is_just(cut_maps(VALVE, (), story, 30), ((0, 0), (1, 0)))
        self.is_just(cut_maps(VALVE, (), story, 31), ((1, 1), (0, 1)))

    def test_many_news(self):
        self.assertEqual(len(story_states(VALVE, (), RISING)), 401)
        self.is_just(late_by(VALVE, (0, 1), FALLING), tuple(range(400)))
        self.is_just(record(VALVE, (0, 1), FALLING), tuple(sorted(FALLING)))
        for call in (record, story_states, story_readings, late_by, story_places, plain_story, story_number):
            self.refuses(InvalidStory, -1, call, VALVE, (0, 1), RISING + ((999, 0),))

    def test_wrong_moments(self):
        for call in (state_at, cut_maps):
            for wrong in (-1, 1000000, True, None, "3"):
                self.refuses(InvalidMoment, -1, call, VALVE, (), (), wrong)
                self.refuses(InvalidStory, 0, call, VALVE, (), (3,), wrong)
                self.refuses(InvalidLate, 0, call, VALVE, (9,), (3,), wrong)
                self.refuses(InvalidMachine, -1, call, 8, (9,), (3,), wrong)


class PlacesTest(Case):
    def test_examples(self):
        self.is_just(story_places(LATCH, (0,), ((5, 1), (3, 0), (7, 0))), ((0, 1), (0, 0), (2, 0)))
        self.is_just(places_story(LATCH, (0,), ((0, 1), (0, 0), (2, 0))), ((1, 1), (0, 0), (2, 0)))
        self.is_just(plain_story(VALVE, (0,), LATE_STORY), ((1, 1), (3, 0), (0, 0), (2, 0)))
        self.is_just(story_places(LATCH, (), ()), ())
        self.is_just(places_story(LATCH, (), ()), ())
        self.is_just(places_story(LATCH, [0], [[0, 0], [0, 0]]), ((1, 0), (0, 0)))

    def test_there_and_back(self):
        for machine, late, story in stories(23):
            places = story_places(machine, late, story)
            for at, (place, kind) in enumerate(places):
                below = [news for news in story[:at] if news[0] < story[at][0]]
                self.assertEqual((place, kind), (len(below), story[at][1]))
            plain = plain_story(machine, late, story)
            self.is_just(places_story(machine, late, places), plain)
            self.is_just(story_places(machine, late, plain), places)
            self.is_just(plain_story(machine, late, plain), plain)
            self.assertEqual(sorted(moment for moment, _ in plain), list(range(len(story))))
            self.is_just(story_readings(machine, late, plain), story_readings(machine, late, story))

    def test_wrong_places(self):
        for value in (None, 3, True, "", "ab", ((0, 0),) * 401, (None,) * 401):
            self.refuses(InvalidPlaces, -1, places_story, VALVE, (0, 1), value)
        for wrong in (
            None, (), (0,), (0, 0, 0), "00", (2, 0), (-1, 0), (True, 0), (0, True), (0, 2), (1, -1), (0, None), ("0", 0),
        ):
            self.refuses(InvalidPlaces, 1, places_story, VALVE, (0, 1), ((0, 0), wrong, wrong))
        self.refuses(InvalidPlaces, 0, places_story, VALVE, (0, 1), ((1, 0), (0, 0)))
        self.refuses(InvalidPlaces, 2, places_story, VALVE, (0,), ((0, 1), (1, 1), (1, 1)))
        self.refuses(InvalidPlaces, 1, places_story, VALVE, (), ((0, 0), (0, 0)))
        self.is_just(places_story(VALVE, (0, 1), ((0, 0),) * 400)[0], (399, 0))

    def test_counts_by_force(self):
        for kinds in (1, 2):
            machine = (((0,),) * kinds, (0,))
            for late in lots_of(kinds):
                for many in range(4):
                    found = set()
                    for order in itertools.permutations(range(many)):
                        for word in itertools.product(range(kinds), repeat=many):
                            story = tuple(zip(order, word))
                            try:
                                found.add((story_places(machine, late, story), story))
                            except InvalidStory:
                                pass
                    wanted = [story for _, story in sorted(found)]
                    self.is_just(story_count(machine, late, many), len(wanted))
                    told = [nth_story(machine, late, many, number) for number in range(len(wanted))]
                    self.assertEqual(told, wanted)
                    for number, story in enumerate(wanted):
                        self.is_just(story_number(machine, late, story), number)

    def test_numbers(self):
        self.is_just(story_count(VALVE, (0,), 0), 1)
        self.is_just(nth_story(VALVE, (0,), 0, 0), ())
        self.is_just(story_number(VALVE, (0,), ()), 0)
        self.is_just(story_count(EIGHT, (), 400), 4 ** 400)
        self.is_just(story_count(VALVE, (0,), 3), 2 * 3 * 4)
        self.is_just(nth_story(VALVE, (0,), 3, 23), ((0, 1), (1, 1), (2, 1)))
        self.refuses(InvalidIndex, -1, nth_story, VALVE, (0,), 3, 24)
        self.refuses(InvalidIndex, -1, nth_story, VALVE, (0,), 0, 1)

    def test_numbers_of_long_stories(self):
        count = story_count(EIGHT, (0, 2, 3), 400)
        for number in (0, 1, count // 3, count - 1):
            story = nth_story(EIGHT, (3, 0, 2), 400, number)
            self.is_just(need_story(EIGHT, (0, 2, 3), story), story)
            self.is_just(story_number(EIGHT, (0, 2, 3), story), number)
        self.refuses(InvalidIndex, -1, nth_story, EIGHT, (0, 2, 3), 400, count)

    def test_number_of_its_plain_one(self):
        for machine, late, story in stories(24):
            number = story_number(machine, late, story)
            self.is_just(nth_story(machine, late, len(story), number), plain_story(machine, late, story))

    def test_wrong_sizes_and_numbers(self):
        for wrong in (-1, 401, True, None, "1", (1,)):
            self.refuses(InvalidSize, "news", story_count, VALVE, (), wrong)
            self.refuses(InvalidSize, "news", nth_story, VALVE, (), wrong, None)
            self.refuses(InvalidLate, -1, nth_story, VALVE, 0, wrong, None)
            self.refuses(InvalidLate, -1, story_count, VALVE, 0, wrong)
        for wrong in (-1, 4, True, None, "1", (1,)):
            self.refuses(InvalidIndex, -1, nth_story, VALVE, (), 2, wrong)
