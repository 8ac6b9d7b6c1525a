"""The opening words of chapter 7, and promises [32], [33] and [34]."""

import itertools

from forgetwhen.court import loops_forget
from forgetwhen.ends import end_places, end_word, ends_apart, question_answer, question_machine
from forgetwhen.errors import InvalidAsked, InvalidMachine, InvalidSize, InvalidWord
from forgetwhen.late import steep_machine
from forgetwhen.least import is_least, least_machine
from forgetwhen.machines import word_map, word_readings
from forgetwhen.maps import power_ring
from forgetwhen.needed import needed_news
from tests.support import (
    LAST, LATCH, ODD_VALUES, RING, VALVE, Case, Chance, all_words, as_lists, mixed_machines, run,
)
from tests.test_court import MAPS_60, MAPS_61

ONE = (((0,), (0,)), (7,))
NEWS = tuple((kind, number, side) for kind in range(2) for number in range(2) for side in range(2))


def least_ones(seed, count, states=4, kinds=2):
    for machine in mixed_machines(count, seed, states, kinds, 3):
        yield least_machine(machine)


def is_end(machine, word, place):
    states, kind = len(machine[1]), word[place]
    if states == 1:
        return False
    ahead, behind = word[:place].count(kind), word[place + 1:].count(kind)
    return ahead < states - 2 or behind < states - 1


def end_word_by_force(machine, word):
    """Letter by letter: at the first of the last ones of a kind its further news, as few as may be."""
    states = len(machine[1])
    letters = []
    for place, kind in enumerate(word):
        if not is_end(machine, word, place):
            continue
        further = word.count(kind) - (2 * states - 3)
        if states > 1 and further > 0 and word[place + 1:].count(kind) == states - 2:
            lead, turn = power_ring(machine, machine[0][kind])
            few = further if further < lead + turn else lead + (further - lead) % turn
            letters += [kind] * few
        letters.append(kind)
    return tuple(letters)


def answer_by_force(question, word):
    name, one, other = question
    if name == "count":
        return word.count(one) % other
    places = []
    for kind, number, side in (one, other):
        own = [place for place, letter in enumerate(word) if letter == kind]
        if side:
            own.reverse()
        if len(own) <= number:
            return 0
        places.append(own[number])
    return int(places[0] < places[1])


class EndsTest(Case):
    def test_examples(self):
        self.is_just(end_places(VALVE, (0, 1, 0, 0, 1)), (3, 4))
        self.is_just(end_word(VALVE, (0, 1, 0, 0, 1)), (0, 1, 1))
        self.is_just(end_word(VALVE, (0,) * 400), (0,) * 2)
        self.is_just(end_word(VALVE, (0,) * 399), (0,))
        self.is_just(end_word(VALVE, (1,) * 400), (1,) * 2)
        self.is_just((end_places(VALVE, ()), end_word(VALVE, ())), ((), ()))
        self.is_just((end_places(ONE, (0, 1, 1)), end_word(ONE, (0, 1, 1))), ((), ()))
        self.is_just(end_places(RING, (0,) * 9), (0, 1, 6, 7, 8))
        self.is_just(end_word(RING, (0,) * 9), (0,) * 8)
        self.is_just(end_places(RING, (1, 0, 1, 0)), (0, 1, 2, 3))

    def test_by_force(self):
        chance = Chance(3201)
        for machine in least_ones(3201, 150):
            for longest in (6, 14, 40):
                word = chance.word(len(machine[0]), chance.below(longest + 1))
                places = tuple(place for place in range(len(word)) if is_end(machine, word, place))
                self.is_just(end_places(machine, word), places)
                self.is_just(end_word(machine, word), end_word_by_force(machine, word))

    def test_words_of_one_kind(self):
        for machine in least_ones(3202, 40):
            for many in range(20):
                self.is_just(end_word(machine, (0,) * many), end_word_by_force(machine, (0,) * many))

    def test_where_loops_forget(self):
        """Each needed news is an end, and each word has the map of its end word."""
        chance = Chance(3203)
        told = 0
        for machine in [*least_ones(3203, 120, 4, 2), steep_machine(3), steep_machine(4), LAST]:
            late = tuple(range(len(machine[0])))
            try:
                if not loops_forget(machine, late):
                    continue
            except InvalidSize:
                continue
            told += len(machine[1]) > 1
            for _ in range(12):
                word = chance.word(len(late), chance.below(20))
                self.assertLessEqual(set(needed_news(machine, late, word)), set(end_places(machine, word)))
                self.is_just(word_map(machine, end_word(machine, word)), word_map(machine, word))
        self.assertGreater(told, 10)

    def test_wrong_words(self):
        for call in (end_places, end_word):
            self.refuses(InvalidWord, -1, call, VALVE, (0,) * 401)
            self.refuses(InvalidWord, 1, call, VALVE, (0, 2))
            self.refuses(InvalidWord, -1, call, VALVE, None)
            self.refuses(InvalidMachine, -1, call, (((1, 2, 1), (0, 0, 0)), (0, 1, 0)), 5)
            self.refuses(InvalidMachine, 2, call, (((1, 0), (0, 0)), (0, 100)), 5)
            self.is_just(call(as_lists(RING), [0] * 9), call(RING, (0,) * 9))


class ApartTest(Case):
    def test_just_where_loops_do_not_forget(self):
        told = {True: 0, False: 0}
        for machine in least_ones(3301, 400, 3, 2):
            late = tuple(range(len(machine[0])))
            apart = ends_apart(machine)
            self.assertIs(apart is None, loops_forget(machine, late))
            told[apart is None] += 1
            if apart is None:
                continue
            one, other = apart
            self.assertIsInstance(apart, tuple)
            self.is_just(end_word_by_force(machine, one), end_word_by_force(machine, other))
            states = range(len(machine[1]))
            self.assertNotEqual(*[[run(machine, state, word) for state in states] for word in (one, other)])
        self.assertGreater(min(told.values()), 20)

    def test_sizes(self):
        ends_apart(MAPS_60)
        self.refuses(InvalidSize, "maps", ends_apart, MAPS_61)
        self.refuses(InvalidMachine, -1, ends_apart, (((1, 2, 1), (0, 0, 0)), (0, 1, 0)))
        self.is_just(ends_apart(as_lists(LATCH)), ends_apart(LATCH))


class QuestionsTest(Case):
    def test_examples(self):
        ahead = ("ahead", (0, 0, 0), (1, 0, 1))
        self.is_just([question_answer(2, ahead, word) for word in ((), (0,), (0, 1), (1, 0), (1, 0, 1))], [0, 0, 1, 0, 1])
        self.is_just(question_answer(2, ("count", 1, 3), (1, 0, 1, 1, 1)), 1)
        self.is_just(question_machine(2, ("count", 0, 3)), (((1, 2, 0), (0, 1, 2)), (0, 1, 2)))
        self.is_just(question_machine(1, ("count", 0, 1)), (((0,),), (0,)))
        # At first neither, then 0 alone, then 1 too: told for ever; or 1 first: never.
        self.is_just(question_machine(2, ("ahead", (0, 0, 0), (1, 0, 0))), (((1, 1, 2, 3), (2, 3, 2, 3)), (0, 0, 0, 1)))
        self.is_just(question_machine(1, ("ahead", (0, 0, 0), (0, 0, 0))), (((0,),), (0,)))

    def test_answers(self):
        chance = Chance(3401)
        for one, other in itertools.product(NEWS, repeat=2):
            question = ("ahead", one, other)
            for word in [*all_words(2, 4), chance.word(2, 28), chance.word(2, 400)]:
                self.is_just(question_answer(2, question, word), answer_by_force(question, word))
            self.is_just(question_answer(4, as_lists(question), [3, 0, 1, 2, 0, 1, 1]),
                         answer_by_force(question, (3, 0, 1, 2, 0, 1, 1)))
        for kind in range(3):
            for by in range(1, 9):
                for word in (*all_words(3, 3), chance.word(3, 28)):
                    self.is_just(question_answer(3, ("count", kind, by), word), word.count(kind) % by)

    def test_machines(self):
        """A least machine that answers along all short words, and along some long ones; or one too great."""
        chance = Chance(3402)
        questions = [("ahead", one, other) for one, other in itertools.product(NEWS, repeat=2)]
        questions += [("ahead", (kind, 1, 0), (2, 0, 1)) for kind in range(3)]
        questions += [("count", kind, by) for kind in range(3) for by in range(1, 9)]
        told = {True: 0, False: 0}
        for question in questions:
            kinds = 3 if question[0] == "count" or question[2][0] == 2 else 2
            try:
                machine = question_machine(kinds, question)
            except InvalidSize as error:
                self.assertEqual(error.word, "states")
                self.assertGreater(self.states_by_force(kinds, question), 8)
                told[False] += 1
                continue
            told[True] += 1
            self.assertIs(is_least(machine), True)
            self.assertEqual(len(machine[1]), self.states_by_force(kinds, question))
            for word in [*all_words(kinds, 5), *(chance.word(kinds, 28) for _ in range(20))]:
                answers = [answer_by_force(question, word[:many]) for many in range(len(word) + 1)]
                self.is_just(word_readings(machine, word), tuple(answers))
        self.assertGreater(min(told.values()), 2)

    def states_by_force(self, kinds, question):
        """How many words are told apart by words of up to four letters behind them, among those of up to five."""
        tails = list(all_words(kinds, 4))
        return len({
            tuple(answer_by_force(question, (*word, *tail)) for tail in tails) for word in all_words(kinds, 5 if kinds == 2 else 4)
        }) if question[0] == "ahead" else question[2]

    def test_their_loops_forget(self):
        for question in [("ahead", one, other) for one, other in itertools.product(NEWS, repeat=2)] + [("count", 1, 5)]:
            try:
                machine = question_machine(2, question)
                self.assertIs(loops_forget(machine, (0, 1)), True)
            except InvalidSize:
                continue

    def test_wrong_kinds(self):
        for kinds in (0, 5, -1, True, None, "2", (2,)):
            self.refuses(InvalidSize, "kinds", question_answer, kinds, 5, 5)
            self.refuses(InvalidSize, "kinds", question_machine, kinds, 5)

    def test_wrong_questions(self):
        good = (0, 0, 0)
        for value in ((), ("ahead", good), ("count", 0, 1, 1), "abc", {0: 1, 1: 2, 2: 3}, None, 3):
            self.asked_wrong(-1, value)
        for name in ("", "Ahead", None, 0, True, ("ahead",), [], b"ahead"):
            self.asked_wrong(0, (name, 9, 9))
        for news in (
            (), (0, 0), (0, 0, 0, 0), (2, 0, 0), (0, 2, 0), (0, 0, 2), (-1, 0, 0), (True, 0, 0), (0, True, 0),
            (0, 0, False), None, 0, "000", ((0,), 0, 0), *ODD_VALUES,
        ):
            self.asked_wrong(1, ("ahead", news, 9))
            self.asked_wrong(2, ["ahead", good, news])
        for kind in (2, -1, True, None, "0", (0,)):
            self.asked_wrong(1, ("count", kind, 9))
        for by in (0, 9, -1, True, None, "3", (3,)):
            self.asked_wrong(2, ("count", 1, by))
        for value in ODD_VALUES:
            self.asked_wrong(0 if isinstance(value, (list, tuple)) and len(value) == 3 else -1, value)

    def asked_wrong(self, at, value):
        self.refuses(InvalidAsked, at, question_answer, 2, value, 5)
        self.refuses(InvalidAsked, at, question_machine, 2, value)

    def test_wrong_words(self):
        question = ("count", 0, 2)
        self.refuses(InvalidWord, -1, question_answer, 2, question, (0,) * 401)
        self.refuses(InvalidWord, 2, question_answer, 2, question, (0, 1, 2))
        self.refuses(InvalidWord, -1, question_answer, 2, question, None)
        self.is_just(question_answer(3, question, (0, 2, 2)), 1)
