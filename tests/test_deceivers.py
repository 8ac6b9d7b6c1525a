"""Promises [23] and [24]."""

from forgetwhen.deceivers import (
    deceive, deceiving_tests, deceiving_word, judge_twin, judged_holds, test_bound, test_stories, tests_hold,
)
from forgetwhen.errors import InvalidLate, InvalidMachine, InvalidMarks, InvalidPaper, InvalidSize, InvalidTwin
from forgetwhen.fewest import least_twin
from forgetwhen.late import steep_machine
from forgetwhen.needed import need_holds, need_paper, needed_news, two_stories
from forgetwhen.stories import need_story, nth_story, story_count, story_readings
from forgetwhen.tables import first_wrong, need_twin, twin_readings, twin_sizes, twin_stands
from forgetwhen.twins import first_row
from forgetwhen.ways import marks_needed
from tests.support import (
    LAST, LATCH, ODD_VALUES, PARTLY, VALVE, Case, Chance, all_words, as_lists, changed_papers, has_list, lots_of,
    mixed_machines,
)

ONE = (((0,),), (7,))
WRONG_MARKS = (-1, 13, True, None, "3", (3,), 10 ** 9)


def cases(seed, count=30, states=3, kinds=2):
    for machine in mixed_machines(count, seed, states, kinds, states):
        for late in lots_of(len(machine[0])):
            yield machine, late


def chance_twin(chance, machine, words, marks, empty=0):
    """Any table, with some rules that are not told."""
    rules = []
    for _ in range(words):
        row = []
        for number in range(marks + 1):
            places = []
            for _ in range(number + 1):
                rule = []
                for _ in machine[0]:
                    kept = [one for one in range(number + 1) if chance.below(3)]
                    while len(kept) > marks:
                        kept.pop(chance.below(len(kept)))
                    rule.append((chance.below(words), tuple(kept)))
                places.append(tuple(rule))
            row.append(() if empty and chance.below(empty) == 0 else tuple(places))
        rules.append(tuple(row))
    return (chance.below(words), tuple(rules), tuple(chance.pick(machine[1]) for _ in range(words)))


def changed_twin(chance, machine, twin):
    """The table with one rule changed."""
    first, rules, shown = twin
    rules = [[[list(rule) for rule in places] for places in row] for row in rules]
    word = chance.below(len(rules))
    told = [number for number, places in enumerate(rules[word]) if places]
    if not told:
        return twin
    number = chance.pick(told)
    kept = [one for one in range(number + 1) if chance.below(2)][:len(rules[0]) - 1]
    rules[word][number][chance.below(number + 1)][chance.below(len(machine[0]))] = (chance.below(len(rules)), tuple(kept))
    return need_twin(machine, (first, rules, shown))


def is_wrong(machine, late, twin, story):
    """Whether the table shows the story wrong, or lacks rules."""
    try:
        return first_wrong(machine, twin, late, story) is not None
    except InvalidTwin:
        return True


def short_stories(machine, late, many):
    for number in range(story_count(machine, late, many)):
        yield nth_story(machine, late, many, number)


class TestsTest(Case):
    def test_examples(self):
        self.is_just(deceiving_word(VALVE, (0,), 0), (1,))
        self.is_just(deceiving_word(VALVE, (0,), 1), None)
        self.is_just(deceiving_word(VALVE, (0, 1), 12), (0,) * 13)
        self.is_just(deceiving_tests(VALVE, (0,), 1), None)
        self.is_just(deceiving_tests(VALVE, (0,), 0), ((1,), ((0, ("needed", ((),), 0, ((),), ())),)))
        self.is_just(test_stories(VALVE, (0,), 0, deceiving_tests(VALVE, (0,), 0)), (
            ((1, 1), (0, 0)), ((1, 1), (2, 0)),
        ))
        self.is_just(test_bound(VALVE, (0,)), None)
        self.is_just(deceiving_word(ONE, (0,), 0), None)

    def test_words_by_force(self):
        for machine, late in cases(2301):
            for marks in range(3):
                found = deceiving_word(machine, late, marks)
                wanted = None
                for word in all_words(len(machine[0]), 6):
                    if len(needed_news(machine, late, word)) > marks:
                        wanted = word
                        break
                if wanted is not None or found is None or len(found) <= 6:
                    self.is_just(found, wanted)
                most = marks_needed(machine, late)
                self.is_just(found is None, most is not None and most <= marks)

    def test_words_for_all_marks(self):
        for machine, late, (p, q) in PARTLY:
            for marks in (0, 5, 12):
                word = deceiving_word(machine, late, marks)
                self.assertEqual(len(needed_news(machine, late, word)), marks + 1)
                self.assertLess(abs(len(word) * p - (marks + 1) * q), 12)
        for states in range(2, 6):
            machine, most = steep_machine(states), 2 * states - 4 if states > 2 else 1
            self.is_just(deceiving_word(machine, (0, 1), most), None)
            self.assertEqual(len(needed_news(machine, (0, 1), deceiving_word(machine, (0, 1), most - 1))), most)

    def test_tests(self):
        some = 0
        for machine, late in cases(2302, 40):
            for marks in (0, 1, 4, 12):
                tests = deceiving_tests(machine, late, marks)
                word = deceiving_word(machine, late, marks)
                if word is None:
                    self.assertIs(tests, None)
                    continue
                some += marks == 12
                places = needed_news(machine, late, word)[:marks + 1]
                self.is_just(tests, (word, tuple((place, need_paper(machine, late, word, place)) for place in places)))
                self.assertIs(tests_hold(machine, late, marks, tests), True)
                for other in (marks - 1, marks + 1):
                    if 0 <= other <= 12:
                        self.assertIs(tests_hold(machine, late, other, tests), False)
        self.assertGreater(some, 8)

    def test_stories_of_tests(self):
        for machine, late in cases(2303, 25):
            for marks in (0, 1, 3):
                tests = deceiving_tests(machine, late, marks)
                if tests is None:
                    continue
                word, papers = tests
                stories = test_stories(machine, late, marks, tests)
                self.assertEqual(len(stories), 2 * (marks + 1))
                heard = tuple(enumerate(word))
                for at, (place, paper) in enumerate(papers):
                    self.is_just(stories[2 * at:2 * at + 2], two_stories(machine, late, heard, place, paper))
                for story in stories:
                    self.is_just(need_story(machine, late, story), story)
                    # Some twin with so many marks shows it wrong: one that always shows what is not right at last.
                    reading = 1 + story_readings(machine, late, story)[-1]
                    rules = [()] * (marks + 1)
                    rules[0] = (((0, ()),) * len(machine[0]),)
                    self.assertIsNotNone(first_wrong(machine, (0, (tuple(rules),), (reading,)), late, story))

    def test_every_twin_is_deceived(self):
        """Any twin with at most so many marks shows one of the stories wrong."""
        chance = Chance(2304)
        for machine, late in cases(2304, 40):
            for marks in range(3):
                tests = deceiving_tests(machine, late, marks)
                if tests is None:
                    continue
                for _ in range(3):
                    twin = chance_twin(chance, machine, 4, marks)
                    stories = test_stories(machine, late, marks, tests)
                    wrong = [(story, first_wrong(machine, twin, late, story)) for story in stories]
                    wrong = [pair for pair in wrong if pair[1] is not None]
                    self.is_just(deceive(machine, late, twin), wrong[0])

    def test_bounds(self):
        told = 0
        for machine, late in [*cases(2305, 30), *((machine, late) for machine, late, _ in PARTLY)]:
            bound = test_bound(machine, late)
            if marks_needed(machine, late) is not None:
                self.assertIs(bound, None)
                continue
            told += 1
            a, b = bound
            for marks in range(13):
                tests = deceiving_tests(machine, late, marks)
                for story in test_stories(machine, late, marks, tests):
                    self.assertLessEqual(len(story), a * (marks + 1) + b)
                # However long the papers are that may be made.
                states, length = len(machine[1]), len(tests[0])
                for place in needed_news(machine, late, tests[0]):
                    put = (place + 1) * (states - 1) + (length - place) * (states * (states - 1) // 2)
                    self.assertLessEqual(length + put + 1 + states, a * (marks + 1) + b)
        self.assertGreater(told, 8)

    def test_changed_tests(self):
        for machine, late in [(VALVE, (0,)), (VALVE, (0, 1)), (LAST, (0, 1)), *cases(2306, 4)]:
            for marks in (0, 1):
                tests = deceiving_tests(machine, late, marks)
                for value in changed_papers(tests, (None, True, -1, 0, 1, 9, (), [])):
                    wanted = not has_list(value) and self.judged(machine, late, marks, value)
                    self.assertIs(tests_hold(machine, late, marks, value), wanted, value)
        for value in ODD_VALUES:
            self.assertIs(tests_hold(VALVE, (0,), 0, value), False)

    def judged(self, machine, late, marks, value):
        if not (isinstance(value, tuple) and len(value) == 2 and all(isinstance(part, tuple) for part in value)):
            return False
        word, papers = value
        if not all(type(kind) is int and 0 <= kind < len(machine[0]) for kind in word) or len(papers) != marks + 1:
            return False
        if not all(isinstance(pair, tuple) and len(pair) == 2 and type(pair[0]) is int for pair in papers):
            return False
        places = [place for place, _ in papers]
        if places != sorted(set(places)) or not set(places) <= set(range(len(word))):
            return False
        return all(
            isinstance(paper, tuple) and paper[:1] == ("needed",) and need_holds(machine, late, word, place, paper)
            for place, paper in papers
        )

    def test_other_tests_that_hold(self):
        paper = ("needed", ((),) * 400, 0, ((),), ())
        word = (0,) * 399 + (1,)
        self.assertIs(tests_hold(VALVE, (0,), 0, (word, ((399, paper),))), True)
        longer = ("needed", ((),) * 401, 0, ((),), ())
        self.assertIs(tests_hold(VALVE, (0,), 0, ((0, *word), ((400, longer),))), False)
        self.refuses(InvalidSize, "news", test_stories, VALVE, (0,), 0, (word, ((399, paper),)))
        self.assertEqual(len(test_stories(VALVE, (0,), 0, (word[1:], ((398, ("needed", ((),) * 399, 0, ((),), ())),)))), 2)
        two = ((0, 1, 0), ((0, need_paper(VALVE, (0, 1), (0, 1, 0), 0)), (2, need_paper(VALVE, (0, 1), (0, 1, 0), 2))))
        self.assertIs(tests_hold(VALVE, (0, 1), 1, two), two[1][0][1][0] == "needed")
        one = (0, need_paper(VALVE, (0, 1), (0, 0), 0))
        other = (1, need_paper(VALVE, (0, 1), (0, 0), 1))
        self.assertIs(tests_hold(VALVE, (0, 1), 1, ((0, 0), (one, other))), True)
        for papers in ((one, one), (other, other), (other, one), (one, (2, other[1]))):
            self.assertIs(tests_hold(VALVE, (0, 1), 1, ((0, 0), papers)), False)
        free = need_paper(VALVE, (0,), (0,), 0)
        self.assertEqual(free[0], "free")
        self.assertIs(tests_hold(VALVE, (0,), 0, ((0,), ((0, free),))), False)

    def test_wrong_arguments(self):
        tests = deceiving_tests(VALVE, (0,), 0)
        for marks in WRONG_MARKS:
            for call, told in (
                (deceiving_word, ()), (deceiving_tests, ()), (tests_hold, (5,)), (test_stories, (5,)),
            ):
                self.refuses(InvalidMarks, -1, call, VALVE, (0,), marks, *told)
        for value in ((), None, as_lists(tests), tests[:1], (tests[0], tests[1] * 2), *ODD_VALUES):
            self.refuses(InvalidPaper, -1, test_stories, VALVE, (0,), 0, value)
        self.refuses(InvalidPaper, -1, test_stories, VALVE, (0,), 1, tests)
        for call, told in ((test_bound, ()), (deceive, (5,)), (judge_twin, (5,)), (judged_holds, (5, 5))):
            self.refuses(InvalidMachine, -1, call, 5, 5, *told)
            self.refuses(InvalidLate, 0, call, VALVE, (2,), *told)
        for call, told in ((deceive, ()), (judge_twin, ()), (judged_holds, (5,))):
            self.refuses(InvalidTwin, -1, call, VALVE, (0,), 5, *told)


class DeceiveTest(Case):
    def test_twins_that_are_right(self):
        self.assertIs(deceive(VALVE, (0,), least_twin(VALVE, (0,))), None)
        self.assertIs(deceive(LAST, (0, 1), least_twin(LAST, (0, 1))), None)

    def test_more_marks_than_needed(self):
        """Where so many marks are enough, there is no deceiver, however wrong the twin is."""
        chance = Chance(2310)
        for marks in range(1, 4):
            self.assertIs(deceive(VALVE, (0,), chance_twin(chance, VALVE, 3, marks)), None)
        self.assertIs(deceive(VALVE, (0,), (0, (((), ()),), (9,))), None)

    def test_wrong_at_once(self):
        twin = (0, (((((0, ()), (0, ())),),),), (5,))
        self.is_just(deceive(VALVE, (0,), twin), (((1, 1), (0, 0)), 0))
        twin = (0, (((((0, ()), (0, ())),),),), (0,))
        self.is_just(deceive(VALVE, (0,), twin), (((1, 1), (2, 0)), 2))
        # Heard like an ordinary one, news of a turn show the other state.
        twin = (0, (((((1, ()), (0, ())),),), ((((0, ()), (0, ())),),)), (0, 1))
        self.is_just(deceive(VALVE, (0,), twin), (((1, 1), (0, 0)), 2))

    def test_without_rules(self):
        twin = (0, (((((1, ()), (0, ())),),), ((),)), (0, 1))
        self.assertIs(twin_stands(VALVE, twin, (0,), ((1, 1), (0, 0)))[-1][0], 1)
        # Both stories end where word 1 is come to; longer ones want its rules.
        self.is_just(deceive(VALVE, (0,), twin), (((1, 1), (0, 0)), 2))
        self.refuses(InvalidTwin, 1, deceive, VALVE, (0,), (1, twin[1], (0, 1)))
        # The first story is shown wrong at once, but rules are wanted later, in it or in the next ones.
        chance = Chance(2311)
        told = 0
        for machine, late in cases(2311, 60):
            for marks in range(2):
                twin = chance_twin(chance, machine, 3, marks, 3)
                tests = deceiving_tests(machine, late, marks)
                if tests is None:
                    self.assertIs(deceive(machine, late, twin), None)
                    continue
                stories = test_stories(machine, late, marks, tests)
                lacking = None
                for story in stories:
                    try:
                        twin_stands(machine, twin, late, story)
                    except InvalidTwin as error:
                        lacking = error.at if lacking is None else lacking
                if lacking is not None:
                    told += 1
                    self.refuses(InvalidTwin, lacking, deceive, machine, late, twin)
                else:
                    story, many = deceive(machine, late, twin)
                    self.assertIn(story, stories)
                    self.is_just(first_wrong(machine, twin, late, story), many)
        self.assertGreater(told, 10)


class JudgeTest(Case):
    def looks_right(self, machine, late, twin):
        """What is told of a twin, tried out."""
        paper = judge_twin(machine, late, twin)
        self.assertFalse(has_list(paper))
        self.assertIs(judged_holds(machine, late, twin, paper), True)
        if paper[0] == "wrong":
            self.assertTrue(is_wrong(machine, late, twin, paper[1]))
        else:
            for many in range(5):
                for story in short_stories(machine, late, many):
                    self.assertFalse(is_wrong(machine, late, twin, story))
            for word, row in paper[1]:
                self.assertLessEqual(len(row[1]), twin_sizes(machine, twin)[1])
        return paper[0]

    def test_least_twins(self):
        for machine, late in cases(2401, 12):
            try:
                twin = least_twin(machine, late)
            except InvalidSize:
                continue
            self.assertEqual(self.looks_right(machine, late, twin), "right")

    def test_changed_twins(self):
        chance = Chance(2402)
        told = {"right": 0, "wrong": 0}
        for machine, late in cases(2402, 40, 3, 2):
            try:
                twin = least_twin(machine, late)
            except InvalidSize:
                continue
            if story_count(machine, late, 4) > 700:
                continue
            for _ in range(3):
                told[self.looks_right(machine, late, changed_twin(chance, machine, twin))] += 1
        self.assertGreater(min(told.values()), 20)

    def test_any_twins(self):
        chance = Chance(2403)
        told = {"right": 0, "wrong": 0}
        for machine, late in cases(2403, 60, 2, 2):
            for empty in (0, 5):
                twin = chance_twin(chance, machine, 1 + chance.below(4), chance.below(3), empty)
                told[self.looks_right(machine, late, twin)] += 1
        self.assertGreater(min(told.values()), 20)

    def test_twins_that_keep_too_much(self):
        """A mark at the last news, though none is needed where no kind is late."""
        states = ((((1, (1,)), (0, (1,))), ((1, (1,)), (0, (1,)))), ((((0, (1,)), (0, (1,))), ((0, (1,)), (0, (1,))))))
        rules = tuple((((places[0][0][0], (0,)), (places[0][1][0], (0,))),) for places in states)
        twin = (0, tuple((rules[word], states[word]) for word in range(2)), (0, 1))
        self.is_just(need_twin(VALVE, twin), twin)
        self.assertEqual(self.looks_right(VALVE, (), twin), "right")
        self.assertEqual(self.looks_right(VALVE, (0,), twin), "wrong")
        self.assertEqual(self.looks_right(VALVE, (0, 1), twin), "wrong")

    def test_wrong_behind_late_news_alone(self):
        """Right for all stories that are heard in order."""
        twin = (0, (((((1, ()), (0, ())),),), ((((0, ()), (0, ())),),)), (0, 1))
        for many in range(6):
            for story in short_stories(VALVE, (), many):
                self.assertFalse(is_wrong(VALVE, (), twin, story))
        self.assertEqual(judge_twin(VALVE, (), twin)[0], "right")
        kind, story = judge_twin(VALVE, (0,), twin)
        self.assertEqual(kind, "wrong")
        self.assertTrue(any(moment < other for at, (moment, _) in enumerate(story) for other, _ in story[:at]))
        self.assertTrue(is_wrong(VALVE, (0,), twin, story))

    def test_wrong_at_once(self):
        twin = (0, (((((0, ()), (0, ())),),),), (5,))
        self.is_just(judge_twin(VALVE, (0,), twin), ("wrong", ()))
        self.assertIs(judged_holds(VALVE, (0,), twin, ("wrong", ())), True)

    def test_twins_that_lack_rules(self):
        twin = (0, (((),),), (0,))
        kind, story = judge_twin(VALVE, (0,), twin)
        self.is_just((kind, len(story)), ("wrong", 1))
        self.assertIs(judged_holds(VALVE, (0,), twin, ("wrong", ((3, 0),))), True)
        self.assertIs(judged_holds(VALVE, (0,), twin, ("wrong", ())), False)
        # Rules that are never wanted may lack.
        self.assertEqual(judge_twin(ONE, (0,), (0, (((((0, ()),),), ()), ((), ())), (7, 7)))[0], "right")

    def test_wrong_twins_too_big(self):
        chance = Chance(2404)
        for _ in range(3):
            twin = chance_twin(chance, VALVE, 9, 4)
            kind, story = judge_twin(VALVE, (0,), twin)
            self.assertTrue(is_wrong(VALVE, (0,), twin, story))
            self.assertIs(judged_holds(VALVE, (0,), twin, (kind, story)), True)

    def test_changed_right_papers(self):
        for machine, late in ((VALVE, (0,)), (LAST, (0, 1)), (ONE, (0,)), (VALVE, ())):
            twin = least_twin(machine, late)
            paper = judge_twin(machine, late, twin)
            self.assertEqual(paper[0], "right")
            for at in range(len(paper[1])):
                fewer = paper[1][:at] + paper[1][at + 1:]
                self.assertIs(judged_holds(machine, late, twin, ("right", fewer)), False)
                self.assertIs(judged_holds(machine, late, twin, ("right", paper[1] + paper[1][at:])), True)
                word, row = paper[1][at]
                for wrong in (
                    [word, row], (word, as_lists(row)), (word, (row[0], list(row[1]))), (word, row, ()), (True, row),
                    (word, (list(row[0]), row[1])), (word, (as_lists(row[0]), row[1])), (word, (tuple(list(one) for one in row[0]), row[1])),
                    (len(twin[1]), row), (-1, row), (None, row), (word, ()), (word, (row[0][1:], row[1])), (word,),
                    ((word + 1) % 2, row) if len(twin[2]) > 1 else None,
                ):
                    changed = (*paper[1][:at], wrong, *paper[1][at + 1:])
                    self.assertIs(judged_holds(machine, late, twin, ("right", changed)), False, wrong)
            self.assertIs(judged_holds(machine, late, twin, ("right", list(paper[1]))), False)
            self.assertIs(judged_holds(machine, late, twin, ("right", ())), False)
            for value in (*ODD_VALUES, ("wrong", ()), ("right",), (*paper, ()), ["right", paper[1]]):
                self.assertIs(judged_holds(machine, late, twin, value), False)

    def test_papers_that_fail_in_one_thing(self):
        """A wrong reading, rules that are not told, a needed mark that is dropped."""
        row = first_row(ONE)
        for machine, told, wanted in (
            (ONE, (0, (((((0, ()),),),),), (7,)), True), (ONE, (0, (((((0, ()),),),),), (8,)), False),
            (ONE, (0, (((),),), (7,)), False),
        ):
            self.assertIs(judged_holds(machine, (0,), told, ("right", ((0, row),))), wanted)
        twin = (0, (((((1, ()), (0, ())),),), ((((0, ()), (0, ())),),)), (0, 1))
        stands = ((0, first_row(VALVE)), (1, (((1, 0),), ())))
        self.assertIs(judged_holds(VALVE, (), twin, ("right", stands)), True)
        self.assertIs(judged_holds(VALVE, (0,), twin, ("right", stands)), False)

    def test_right_papers_by_other_rows(self):
        """Any row that tells the same will do; one that tells something else will not."""
        twin = least_twin(VALVE, (0,))
        kind, stands = judge_twin(VALVE, (0,), twin)
        other = tuple(
            (word, (((0, 0), row[0][1]), row[1])) if row[1] else (word, row) for word, row in stands
        )
        self.assertIs(judged_holds(VALVE, (0,), twin, (kind, other)), True)
        other = tuple(
            (word, ((row[0][0], row[0][1][::-1]), row[1])) if row[1] else (word, row) for word, row in stands
        )
        self.assertIs(judged_holds(VALVE, (0,), twin, (kind, other)), False)
        # More marks than the twin may have.
        more = (0, (((0, 1),) * 3, (1, 1)))
        self.assertIs(judged_holds(VALVE, (0,), twin, (kind, (*stands, more))), False)
        self.is_just(stands[0], (twin[0], first_row(VALVE)))

    def test_changed_wrong_papers(self):
        chance = Chance(2405)
        for machine, late in [(VALVE, (0,)), (VALVE, (0, 1)), *cases(2405, 5)]:
            twin = chance_twin(chance, machine, 3, 1, 6)
            paper = judge_twin(machine, late, twin)
            if paper[0] == "right":
                continue
            for value in changed_papers(paper, (None, True, -1, 0, 1, 2, 999999, 10 ** 6, (), [])):
                wanted = False
                if isinstance(value, tuple) and len(value) == 2 and value[0] == "wrong" and not has_list(value):
                    try:
                        story = need_story(machine, late, value[1])
                    except Exception:
                        story = None
                    wanted = story is not None and is_wrong(machine, late, twin, story)
                self.assertIs(judged_holds(machine, late, twin, value), wanted, value)

    def test_long_wrong_stories(self):
        twin = (0, (((((0, ()), (0, ())),),),), (0,))
        story = tuple((moment, 1) for moment in range(450)) + ((500, 0),)
        self.assertIs(judged_holds(VALVE, (0,), twin, ("wrong", story)), True)
        self.assertIs(judged_holds(VALVE, (0,), twin, ("wrong", story[:-1])), False)
        self.assertIs(judged_holds(VALVE, (0,), twin, ("wrong", story[:-1] + ((500, 0), (499, 1)))), False)

    def test_readings_of_twins(self):
        """The latch, by its least twin."""
        for late in lots_of(2):
            if marks_needed(LATCH, late) is None:
                continue
            twin = least_twin(LATCH, late)
            story = Chance(2406).story(LATCH, late, 20, 60)
            self.is_just(twin_readings(LATCH, twin, late, story), story_readings(LATCH, late, story))
            self.assertEqual(judge_twin(LATCH, late, twin)[0], "right")
