"""Promises [13] and [14]."""

import itertools

from forgetwhen.errors import (
    InvalidIndex, InvalidLate, InvalidMachine, InvalidPaper, InvalidSize, InvalidStory, InvalidWord,
)
from forgetwhen.least import least_machine
from forgetwhen.needed import (
    need_holds, need_paper, needed_moments, needed_news, two_stories, word_relations, word_sets,
)
from forgetwhen.stories import need_story, record, story_places, story_readings
from tests.support import (
    EIGHT, LAST, LATCH, ODD_VALUES, RING, VALVE, Case, Chance, all_words, changed_papers, has_list, lots_of,
    mixed_machines, run,
)

ONE = (((0,),), (7,))
NOT_LEAST = (((1, 2, 1), (0, 0, 0)), (0, 1, 0))


def cases(seed, count=60, states=4, kinds=3, longest=5):
    """(machine, late, word) of many forms."""
    chance = Chance(seed)
    for machine in mixed_machines(count, seed, states, kinds, 3):
        yield machine, chance.lot(len(machine[0])), chance.word(len(machine[0]), chance.below(longest + 1))


def late_words(late, longest):
    for many in range(longest + 1):
        yield from itertools.product(late, repeat=many)


def sets_by_force(machine, late, word):
    """What late words of every length that can matter lead to, gap by gap."""
    words = list(late_words(late, len(machine[1]) - 1))
    sets = [{run(machine, 0, put) for put in words}]
    for kind in word:
        sets.append({run(machine, run(machine, state, (kind,)), put) for state in sets[-1] for put in words})
    return tuple(tuple(sorted(states)) for states in sets)


def parted_by_force(machine, late, word):
    """For each gap the pairs of states that can still be parted, found from the end, pair by pair."""
    states = range(len(machine[1]))
    pairs = [(one, other) for one in states for other in states]

    def grown(parted, kinds):
        while True:
            more = {pair for pair in pairs if any(
                (machine[0][kind][pair[0]], machine[0][kind][pair[1]]) in parted for kind in kinds
            )}
            if more <= parted:
                return parted
            parted = parted | more

    gaps = [grown({(s, t) for s, t in pairs if machine[1][s] != machine[1][t]}, range(len(machine[0])))]
    for kind in reversed(word):
        one = machine[0][kind]
        gaps.append(grown({(s, t) for s, t in pairs if (one[s], one[t]) in gaps[-1]}, late))
    return gaps[::-1]


def relations_by_force(machine, late, word):
    rows = []
    for parted in parted_by_force(machine, late, word):
        row = []
        for state in range(len(machine[1])):
            like = [row[other] for other in range(state) if (other, state) not in parted]
            row.append(like[0] if like else len(set(row)))
        rows.append(tuple(row))
    return tuple(rows)


def two_readings(machine, word, place, value):
    """The readings on end with the kind of a paper ahead of its news, and behind it."""
    _, ahead, kind, behind, tail = value
    told = []
    for middle in ((kind, word[place]), (word[place], kind)):
        whole = []
        for gap, put in enumerate(ahead):
            whole += put
            whole += word[gap:gap + 1] if gap < place else middle
        for gap, put in enumerate(behind):
            whole += put
            whole += word[place + 1 + gap:place + 2 + gap]
        told.append(machine[1][run(machine, 0, (*whole, *tail))])
    return told


def free_by_force(machine, late, word, place, sets, relations):
    """Whether sets and relations are a paper, part by part."""
    maps, readings = machine
    pairs = [(one, other) for one in range(len(readings)) for other in range(len(readings))]

    def like_to_like(kind, ahead, behind):
        return all(behind[maps[kind][s]] == behind[maps[kind][t]] for s, t in pairs if ahead[s] == ahead[t])

    wanted = [0 in sets[0], all(readings[s] == readings[t] for s, t in pairs if relations[-1][s] == relations[-1][t])]
    wanted += [like_to_like(kind, relations[-1], relations[-1]) for kind in range(len(maps))]
    for gap, states in enumerate(sets):
        wanted += [maps[kind][state] in states for kind in late for state in states]
        wanted += [like_to_like(kind, relations[gap], relations[gap]) for kind in late]
    for gap, kind in enumerate(word):
        wanted += [maps[kind][state] in sets[gap + 1] for state in sets[gap]]
        wanted.append(like_to_like(kind, relations[gap], relations[gap + 1]))
    classes = relations[place + 1]
    for state in sets[place]:
        for kind in late:
            one, other = run(machine, state, (kind, word[place])), run(machine, state, (word[place], kind))
            wanted.append(classes[one] == classes[other])
    return all(wanted)


class SetsTest(Case):
    def test_examples(self):
        self.is_just(word_sets(VALVE, (0,), (1,)), ((0, 1), (0, 1)))
        self.is_just(word_sets(VALVE, (), (0, 1, 0)), ((0,), (1,), (0,), (1,)))
        self.is_just(word_sets(VALVE, (1,), (0, 0)), ((0,), (0, 1), (0, 1)))
        self.is_just(word_sets(RING, (0,), ()), ((0, 1, 2, 3),))
        self.is_just(word_sets(ONE, (0,), (0, 0)), ((0,), (0,), (0,)))
        self.is_just(word_sets(NOT_LEAST, (0,), (1,)), ((0, 1, 2), (0, 1, 2)))

    def test_by_force(self):
        for machine, late, word in cases(40):
            self.is_just(word_sets(machine, late, word), sets_by_force(machine, late, word))

    def test_long_words(self):
        sets = word_sets(EIGHT, (1,), (0,) * 400)
        self.assertEqual(len(sets), 401)
        self.is_just(sets[0], (0,))
        self.is_just(sets[8], (0, 1, 2, 3, 4, 5, 6, 7))


class RelationsTest(Case):
    def test_examples(self):
        self.is_just(word_relations(VALVE, (), (1,)), ((0, 0), (0, 1)))
        self.is_just(word_relations(VALVE, (), (0, 1, 0)), ((0, 0), (0, 0), (0, 1), (0, 1)))
        self.is_just(word_relations(RING, (), ()), ((0, 1, 2, 3),))
        self.is_just(word_relations(RING, (0,), (1,)), ((0, 0, 0, 0), (0, 1, 2, 3)))
        self.is_just(word_relations(ONE, (0,), (0,)), ((0,), (0,)))

    def test_late_words_part_more(self):
        # Ahead of kind 1 states 0 and 1 lead to the same; a late kind 0 leads them elsewhere first.
        machine = (((1, 2, 2), (0, 0, 1)), (0, 1, 1))
        self.is_just(word_relations(machine, (), (1,)), ((0, 0, 1), (0, 1, 2)))
        self.is_just(word_relations(machine, (0,), (1,)), ((0, 1, 2), (0, 1, 2)))

    def test_no_least_machines(self):
        self.is_just(word_relations(NOT_LEAST, (), ()), ((0, 1, 0),))
        self.is_just(word_relations(NOT_LEAST, (0,), (0,)), ((0, 1, 0), (0, 1, 0)))

    def test_by_force(self):
        for machine, late, word in cases(41):
            self.is_just(word_relations(machine, late, word), relations_by_force(machine, late, word))

    def test_long_words(self):
        self.assertEqual(len(word_relations(EIGHT, (0, 3), (2, 1) * 200)), 401)


class NeededTest(Case):
    def test_examples(self):
        self.is_just(needed_news(LAST, (0, 1), (0, 1, 1)), (2,))
        self.is_just(needed_news(VALVE, (0,), (0, 1, 0, 0)), (1,))
        self.is_just(needed_news(VALVE, (0, 1), (1, 1, 1)), (2,))
        self.is_just(needed_news(VALVE, (0, 1), (0, 1, 0, 0)), (1, 2, 3))
        self.is_just(needed_news(VALVE, (), (0, 1, 0, 0)), ())
        self.is_just(needed_news(VALVE, (0, 1), ()), ())
        self.is_just(needed_news(ONE, (0,), (0,)), ())

    def test_by_force(self):
        for machine, late, word in cases(42, 120):
            sets, parted = sets_by_force(machine, late, word), parted_by_force(machine, late, word)
            needed = tuple(
                place for place, kind in enumerate(word) if any(
                    (run(machine, state, (put, kind)), run(machine, state, (kind, put))) in parted[place + 1]
                    for state in sets[place] for put in late
                )
            )
            self.is_just(needed_news(machine, late, word), needed)

    def test_by_stories(self):
        """Just the news are needed about which two stories, of all that can matter, are unlike on end."""
        for machine in mixed_machines(40, 43, 2, 2):
            kinds = len(machine[0])
            for late in lots_of(kinds):
                for word in all_words(kinds, 2):
                    for place in range(len(word)):
                        papers = [
                            ("needed", ahead, kind, behind, tail)
                            for ahead in itertools.product(list(late_words(late, 1)), repeat=place + 1)
                            for kind in late
                            for behind in itertools.product(list(late_words(late, 1)), repeat=len(word) - place)
                            for tail in all_words(kinds, 1)
                        ]
                        parting = []
                        for paper in papers:
                            one, other = two_readings(machine, word, place, paper)
                            self.assertIs(need_holds(machine, late, word, place, paper), one != other)
                            parting.append(one != other)
                        self.assertEqual(place in needed_news(machine, late, word), any(parting))

    def test_like_its_least_machine(self):
        for machine, late, word in cases(44, 100):
            self.is_just(needed_news(machine, late, word), needed_news(least_machine(machine), late, word))

    def test_news_more(self):
        """What is free stays free, with news put in or on end."""
        for machine, late, word in cases(45, 60):
            needed = needed_news(machine, late, word)
            for kind in range(len(machine[0])):
                behind = needed_news(machine, late, (*word, kind))
                self.assertLessEqual(set(behind) - {len(word)}, set(needed))
            for kind in late:
                for gap in range(len(word) + 1):
                    longer = needed_news(machine, late, (*word[:gap], kind, *word[gap:]))
                    others = {place - (place > gap) for place in longer if place != gap}
                    self.assertLessEqual(others, set(needed))

    def test_moments(self):
        story = ((20, 1), (30, 0), (10, 0), (25, 0))
        self.is_just(needed_moments(VALVE, (0,), story), (20,))
        self.is_just(needed_moments(VALVE, (0, 1), story), (20, 25, 30))
        self.is_just(needed_moments(VALVE, (0,), ()), ())
        chance = Chance(46)
        for machine, late, _ in cases(46):
            story = chance.story(machine, late, 8, 40)
            moments = [moment for moment, _ in sorted(story)]
            word = tuple(kind for _, kind in sorted(story))
            wanted = tuple(moments[place] for place in needed_news(machine, late, word))
            self.is_just(needed_moments(machine, late, story), wanted)

    def test_many_news(self):
        self.is_just(needed_news(VALVE, (0, 1), (0,) * 400), tuple(range(400)))
        self.is_just(needed_news(VALVE, (0,), (0, 1) * 200), (399,))
        for call in (word_sets, word_relations, needed_news):
            self.refuses(InvalidWord, -1, call, VALVE, (0, 1), (1,) * 401)
            self.refuses(InvalidWord, 2, call, VALVE, (0, 1), (1, 0, 2, True))
            self.refuses(InvalidLate, 0, call, VALVE, (2,), (1, 0, 2))
        rising = tuple((moment, 0) for moment in range(401))
        self.is_just(needed_moments(VALVE, (0, 1), rising[:400]), tuple(range(400)))
        self.refuses(InvalidStory, -1, needed_moments, VALVE, (0, 1), rising)


class PaperTest(Case):
    def test_examples(self):
        self.is_just(need_paper(LAST, (0, 1), (0,), 0)[0], "needed")
        self.is_just(need_paper(VALVE, (0,), (0,), 0)[0], "free")
        self.assertIs(need_holds(VALVE, (0, 1), (1,), 0, ("needed", ((),), 0, ((),), ())), True)
        self.assertIs(need_holds(VALVE, (0,), (0,), 0, ("free", ((0, 1), (0, 1)), ((0, 1), (0, 1)))), True)

    def holds_and_is_short(self, machine, late, word, place):
        paper = need_paper(machine, late, word, place)
        self.assertFalse(has_list(paper))
        self.assertIs(need_holds(machine, late, word, place, paper), True)
        many = len(machine[1])
        if paper[0] == "needed":
            _, ahead, kind, behind, tail = paper
            self.assertEqual((len(ahead), len(behind)), (place + 1, len(word) - place))
            self.assertIn(kind, late)
            self.assertLessEqual(max(len(put) for put in ahead), many - 1)
            self.assertLessEqual(max(len(put) for put in behind), many * (many - 1) // 2)
            self.assertLessEqual(len(tail), many)
            self.assertTrue(set(itertools.chain(*ahead, *behind)) <= set(late))
            one, other = two_readings(machine, word, place, paper)
            self.assertNotEqual(one, other)
        return paper[0]

    def test_papers_that_are_made(self):
        kinds = {"needed": 0, "free": 0}
        for machine, late, word in [*cases(47, 200), *cases(48, 60, 8, 4, 8)]:
            needed = needed_news(machine, late, word)
            for place in range(len(word)):
                told = self.holds_and_is_short(machine, late, word, place)
                self.assertEqual(told == "needed", place in needed)
                kinds[told] += 1
        self.assertGreater(min(kinds.values()), 50)

    def test_just_one_kind_holds(self):
        for machine, late, word in cases(49, 120):
            sets, relations = word_sets(machine, late, word), word_relations(machine, late, word)
            needed = needed_news(machine, late, word)
            for place in range(len(word)):
                holds = need_holds(machine, late, word, place, ("free", sets, relations))
                self.assertIs(holds, place not in needed)

    def test_long_words(self):
        self.assertEqual(self.holds_and_is_short(VALVE, (0, 1), (0,) * 400, 0), "needed")
        self.assertEqual(self.holds_and_is_short(VALVE, (0, 1), (1,) * 400, 399), "needed")
        self.holds_and_is_short(EIGHT, (0, 1, 2, 3), (0, 3) * 200, 17)
        self.assertEqual(self.holds_and_is_short(VALVE, (0,), (0, 1) * 200, 1), "free")
        self.refuses(InvalidWord, -1, need_paper, VALVE, (0, 1), (1,) * 401, 0)
        self.refuses(InvalidWord, -1, need_holds, VALVE, (0, 1), (1,) * 401, 0, None)

    def test_long_words_in_papers(self):
        for many in (399, 400, 2000):
            paper = ("needed", ((0, 0) * many,), 0, ((1,) * many,), (0,) * many)
            one, other = two_readings(VALVE, (1,), 0, paper)
            self.assertIs(need_holds(VALVE, (0, 1), (1,), 0, paper), one != other)
        self.assertIs(need_holds(VALVE, (0, 1), (1,), 0, ("needed", ((),), 0, ((),), (0,) * 399)), True)
        self.assertIs(need_holds(VALVE, (0, 1), (1,), 0, ("needed", ((),), 0, ((),), (0,) * 398 + (1,))), False)

    def test_needed_papers_changed(self):
        word, paper = (0, 1, 0), ("needed", ((), (0,)), 0, ((), (0, 0)), (0, 0))
        self.assertIs(need_holds(VALVE, (0,), word, 1, paper), True)
        for wrong in (
            ("needed", ((),), 0, ((), ()), ()), ("needed", ((), ()), 0, ((),), ()),
            ("needed", ((), (), ()), 0, ((),), ()), ("needed", ((), ()), 1, ((), ()), ()),
            ("needed", ((1,), ()), 0, ((), ()), ()), ("needed", ((), ()), 0, ((1,), ()), ()),
            ("needed", ((), ()), 0, ((), ()), (2,)), ("needed", ((), ()), 0, ((), ()), (1,)),
            ("needed", ((), ()), False, ((), ()), ()), ("needed", ((), (False,)), 0, ((), ()), ()),
            ("needed", ((), ()), 0, ((), ()), (False,)), ("needed", [(), ()], 0, ((), ()), ()),
            ("needed", ((), []), 0, ((), ()), ()), ("needed", ((), ()), 0, ([], ()), ()),
            ("needed", ((), ()), 0, ((), ()), []), ["needed", ((), ()), 0, ((), ()), ()],
            ("needed", ((), ()), 0, ((), ())), ("needed", ((), ()), 0, ((), ()), (), ()),
            ("free", ((), ()), 0, ((), ()), ()), (None, ((), ()), 0, ((), ()), ()), ("needed", (), 0, (), ()),
        ):
            self.assertIs(need_holds(VALVE, (0,), word, 1, wrong), False, wrong)
        self.assertIs(need_holds(VALVE, (0,), word, 1, ("needed", ((), ()), 0, ((), ()), (0,))), True)
        self.assertIs(need_holds(VALVE, (0,), word, 1, ("needed", ((), ()), 0, ((), ()), (0, 1))), False)

    def test_free_papers_changed(self):
        # The first news of (1, 1) are free for late turns: what is behind them closes again.
        sets, relations = ((0, 1), (0, 1), (0, 1)), ((0, 0), (0, 0), (0, 1))
        self.is_just(need_paper(VALVE, (), (1, 1), 0), ("free", ((0,), (0,), (0,)), ((0, 0), (0, 0), (0, 1))))
        for states, classes, holds in (
            (sets, relations, True), (((1, 0), (1, 0, 1), (0, 1)), relations, True),
            (sets, ((1, 1), (1, 1), (1, 0)), True), (sets, ((0, 0), (0, 0), (1, 1)), False),
            (sets, ((0, 1), (0, 0), (0, 1)), True), (sets, ((0, 1), (0, 1), (0, 1)), False),
            (((0,), (0, 1), (0, 1)), relations, False), (((1,), (0, 1), (0, 1)), relations, False),
            (((), (0, 1), (0, 1)), relations, False), (((0, 1), (1,), (0, 1)), relations, False),
            (sets[:2], relations, False), (sets, relations[:2], False), ((*sets, (0,)), relations, False),
            (sets, (*relations, (0, 1)), False), (sets, ((0, 0), (0,), (0, 1)), False),
            (sets, ((0, 0), (0, 0, 0), (0, 1)), False), (sets, ((0, 0), (0, 0), (0, 2)), False),
            (sets, ((0, 0), (0, -1), (0, 1)), False), (sets, ((0, 0), (0, False), (0, 1)), False),
            (((0, 1), (0, True), (0, 1)), relations, False), (((0, 1), (0, 1, 2), (0, 1)), relations, False),
            (((0, 1), [0, 1], (0, 1)), relations, False), (list(sets), relations, False),
            (sets, [*relations], False), (sets, ((0, 0), [0, 0], (0, 1)), False),
        ):
            value = ("free", states, classes)
            self.assertIs(need_holds(VALVE, (0,), (1, 1), 0, value), holds, value)
        self.assertIs(need_holds(VALVE, (0,), (1, 1), 1, ("free", sets, relations)), False)
        self.assertIs(need_holds(VALVE, (0,), (1, 1), 0, ("free", sets)), False)
        self.assertIs(need_holds(VALVE, (0,), (1, 1), 0, ("free", sets, relations, ())), False)
        self.assertIs(need_holds(VALVE, (0,), (1, 1), 0, ["free", sets, relations]), False)

    def test_relations_must_lead_on(self):
        # In the last relation all kinds lead like ones to like ones, prompt kinds, too.
        chain = (((1, 2, 2), (0, 1, 2)), (0, 0, 1))
        self.assertIs(need_holds(chain, (1,), (1,), 0, ("free", ((0,), (0,)), ((0, 1, 2), (0, 1, 2)))), True)
        self.assertIs(need_holds(chain, (1,), (1,), 0, ("free", ((0,), (0,)), ((0, 0, 2), (0, 0, 2)))), False)
        # Late kinds lead like ones to like ones in each relation, and sets hold what they lead to.
        self.assertIs(need_holds(chain, (0,), (1,), 0, ("free", ((0, 1, 2), (0, 1, 2)), ((0, 0, 2), (0, 1, 2)))), False)
        self.assertIs(need_holds(chain, (0,), (1,), 0, ("free", ((0, 1, 2), (0, 1, 2)), ((0, 1, 2), (0, 1, 2)))), True)
        self.assertIs(need_holds(chain, (0,), (1,), 0, ("free", ((0, 1, 2), (0, 1)), ((0, 1, 2), (0, 1, 2)))), False)
        self.assertIs(need_holds(chain, (0,), (1,), 0, ("free", ((0, 2), (0, 1, 2)), ((0, 1, 2), (0, 1, 2)))), False)

    def test_free_papers_by_force(self):
        """Papers with a number or two changed hold just if they do by the words of the promise."""
        chance = Chance(51)
        told = {True: 0, False: 0}
        for machine, late, word in cases(51, 250, 3, 2, 3):
            if not word:
                continue
            for _ in range(8):
                sets = [list(states) for states in word_sets(machine, late, word)]
                relations = [list(classes) for classes in word_relations(machine, late, word)]
                for _ in range(1 + chance.below(2)):
                    gap = chance.below(len(word) + 1)
                    state = chance.below(len(machine[1]))
                    if chance.below(3) == 0:
                        relations[gap][state] = chance.below(len(machine[1]))
                    elif state in sets[gap]:
                        sets[gap].remove(state)
                    else:
                        sets[gap].append(state)
                sets, relations = tuple(map(tuple, sets)), tuple(map(tuple, relations))
                place = chance.below(len(word))
                wanted = free_by_force(machine, late, word, place, sets, relations)
                self.assertIs(need_holds(machine, late, word, place, ("free", sets, relations)), wanted)
                told[wanted] += 1
        self.assertGreater(min(told.values()), 100)

    def test_any_value(self):
        for value in ODD_VALUES:
            self.assertIs(need_holds(VALVE, (0,), (0, 1, 0), 1, value), False)
        for word, place in (((0, 1, 0), 1), ((1, 1), 0)):
            paper = need_paper(VALVE, (0,), word, place)
            for value in changed_papers(paper):
                holds = need_holds(VALVE, (0,), word, place, value)
                self.assertIn(holds, (True, False))
                if has_list(value) or "True" in repr(value):
                    self.assertIs(holds, False)

    def test_wrong_places(self):
        for call in (need_paper, lambda *arguments: need_holds(*arguments, None)):
            for wrong in (-1, 2, True, None, "0", (0,)):
                self.refuses(InvalidIndex, -1, call, VALVE, (0,), (0, 1), wrong)
                self.refuses(InvalidWord, 1, call, VALVE, (0,), (0, 2), wrong)
            self.refuses(InvalidIndex, -1, call, VALVE, (0,), (), 0)
            self.refuses(InvalidMachine, -1, call, None, 0, 0, 0)


class TwoStoriesTest(Case):
    def test_examples(self):
        paper = need_paper(VALVE, (0, 1), (1,), 0)
        stories = (((1, 1), (0, 0)), ((1, 1), (2, 0)))
        self.is_just(two_stories(VALVE, (0, 1), ((20, 1),), 0, paper), stories)
        self.is_just(two_stories(VALVE, [1, 0], [[20, 1]], 0, paper), stories)
        paper = ("needed", ((), ()), 0, ((), ()), (0, 0))
        self.is_just(
            two_stories(VALVE, (0,), ((5, 0), (7, 1), (9, 0)), 1, paper),
            (((0, 0), (2, 1), (4, 0), (1, 0), (5, 0), (6, 0)), ((0, 0), (2, 1), (4, 0), (3, 0), (5, 0), (6, 0))),
        )

    def test_moments_and_order(self):
        # Heard: a late turn, the closing, another turn later; the closing is the news at place 1 of the record.
        story = ((7, 0), (20, 1), (9, 0), (30, 0))
        self.is_just(record(VALVE, (0,), story), ((7, 0), (9, 0), (20, 1), (30, 0)))
        paper = ("needed", ((0,), (), (0, 0)), 0, ((0,), ()), (0, 0))
        ahead_of_kind = ((1, 0), (6, 1), (2, 0), (9, 0), (0, 0), (3, 0), (4, 0), (8, 0))
        self.is_just(
            two_stories(VALVE, (0,), story, 2, paper),
            ((*ahead_of_kind, (5, 0), (10, 0), (11, 0)), (*ahead_of_kind, (7, 0), (10, 0), (11, 0))),
        )

    def test_stories_that_deceive(self):
        chance = Chance(50)
        found = 0
        for machine, late, _ in cases(50, 200):
            story = chance.story(machine, late, 7, 60)
            word = tuple(kind for _, kind in sorted(story))
            for place in needed_news(machine, late, word):
                paper = need_paper(machine, late, word, place)
                one, other = two_stories(machine, late, story, place, paper)
                for told in (one, other):
                    self.is_just(need_story(machine, late, told), told)
                    self.is_just(
                        story_places(machine, late, told[:len(story)]), story_places(machine, late, story)
                    )
                self.assertNotEqual(story_readings(machine, late, one)[-1], story_readings(machine, late, other)[-1])
                self.assertEqual({moment for moment, _ in one + other}, set(range(len(one) + 1)))
                unlike = [at for at, news in enumerate(one) if news != other[at]]
                self.assertEqual(unlike, [len(one) - 1 - len(paper[4])])
                at = unlike[0]
                news = sorted(one[:len(story)])[place]
                self.is_just((one[at], other[at]), ((news[0] - 1, paper[2]), (news[0] + 1, paper[2])))
                words = [*paper[1], *paper[3]]
                self.is_just([kind for _, kind in one[len(story):at]], [kind for put in words for kind in put])
                self.is_just(tuple(kind for _, kind in one[at + 1:]), paper[4])
                put_in = [moment for moment, _ in one[len(story):at]]
                self.assertEqual(put_in, sorted(put_in))
                found += 1
        self.assertGreater(found, 50)

    def test_papers_that_do_not_hold(self):
        story = ((20, 1), (30, 0))
        for value in (
            *ODD_VALUES, need_paper(VALVE, (0,), (1, 0), 1), ("needed", ((),), 0, ((), ()), (1,)),
            ["needed", ((),), 0, ((), ()), ()], ("needed", [()], 0, ((), ()), ()), ("needed", ((),), 0, ((),), ()),
        ):
            self.refuses(InvalidPaper, -1, two_stories, VALVE, (0,), story, 0, value)
            self.refuses(InvalidIndex, -1, two_stories, VALVE, (0,), story, 2, value)
            self.refuses(InvalidStory, 0, two_stories, VALVE, (0,), ((1, 2),), 2, value)
        self.assertEqual(need_paper(VALVE, (0,), (1, 0), 1)[0], "free")
        self.refuses(InvalidPaper, -1, two_stories, VALVE, (0,), story, 1, need_paper(VALVE, (0,), (1, 0), 1))
        # A paper that holds for another place of the record.
        self.refuses(InvalidPaper, -1, two_stories, VALVE, (0,), story, 1, need_paper(VALVE, (0,), (1, 0), 0))

    def test_place_in_the_record(self):
        # The place counts by moments, not as heard.
        story = ((20, 1), (10, 0))
        paper = need_paper(VALVE, (0,), (0, 1), 1)
        one, other = two_stories(VALVE, (0,), story, 1, paper)
        self.assertEqual((one[0][1], other[0][1]), (1, 1))
        self.refuses(InvalidPaper, -1, two_stories, VALVE, (0,), story, 0, paper)

    def test_many_news(self):
        for many, tail in ((1, 398), (399, 0), (200, 199)):
            story = tuple((2 * moment, 1) for moment in range(many))
            paper = ("needed", ((),) * many, 0, ((),), (0,) * tail)
            one, other = two_stories(VALVE, (0, 1), story, many - 1, paper)
            self.assertEqual((len(one), len(other)), (400, 400))
            self.is_just(need_story(VALVE, (0, 1), one), one)
            longer = ("needed", ((),) * many, 0, ((),), (0,) * (tail + 1))
            self.refuses(InvalidSize, "news", two_stories, VALVE, (0, 1), story, many - 1, longer)
            filled = ("needed", ((),) * (many - 1) + ((1,),), 0, ((),), (0,) * tail)
            self.refuses(InvalidSize, "news", two_stories, VALVE, (0, 1), story, many - 1, filled)
        story = tuple((moment, 0) for moment in range(400))
        paper = need_paper(VALVE, (0, 1), (0,) * 400, 7)
        self.refuses(InvalidSize, "news", two_stories, VALVE, (0, 1), story, 7, paper)
        self.refuses(InvalidPaper, -1, two_stories, VALVE, (0, 1), story, 7, None)

    def test_latch(self):
        self.is_just(needed_news(LATCH, (0, 1), (0, 1, 0)), (2,))
