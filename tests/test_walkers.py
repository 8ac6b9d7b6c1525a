"""The opening words of chapter 6, and promise [30]."""

import itertools

from forgetwhen.court import court_holds, court_paper, loops_forget
from forgetwhen.errors import InvalidLate, InvalidMachine, InvalidPaper, InvalidSize
from forgetwhen.least import least_machine
from forgetwhen.machines import reach_words
from forgetwhen.needed import needed_news
from forgetwhen.walkers import court_of_walk, rising_word, walk_of_court, walkers_hold, walkers_paper
from tests.support import (
    LAST, ODD_VALUES, PARTLY, VALVE, Case, Chance, as_lists, changed_papers, has_list, lots_of, mixed_machines, run,
)
from tests.test_court import MAPS_60, MAPS_61

SWAP = ("swap", (0, 1, 0), (), 0, 1, ((0, 0),))
FIVE = (((1, 2, 3, 4, 0), (0, 0, 0, 0, 0)), (0, 1, 2, 3, 4))
# Machines, with late kinds, in which a turn is idempotent only several times.
SEVERAL = (
    ((((1, 2, 0, 3), (1, 3, 0, 1), (0, 3, 0, 0)), (0, 3, 2, 1)), (0,)),
    ((((1, 0, 3, 1), (1, 3, 2, 1), (2, 3, 1, 0)), (0, 2, 1, 3)), (2,)),
    ((((1, 3, 0, 2), (2, 2, 3, 0), (1, 2, 3, 2)), (0, 1, 3, 2)), (2,)),
    ((((1, 1, 0, 2), (2, 0, 3, 3)), (0, 1, 2, 3)), (1,)),
    ((((1, 2, 2, 0), (0, 3, 2, 3), (0, 0, 0, 0)), (0, 2, 3, 1)), (1,)),
)


def least_cases(seed, count=40, states=3, kinds=2):
    for machine in mixed_machines(count, seed, states, kinds, states):
        machine = least_machine(machine)
        for late in lots_of(len(machine[0])):
            yield machine, late
    for machine, late, _ in PARTLY:
        yield least_machine(machine), late
    # Among these are some in which turns are left alone, but none is swapped.
    for one in itertools.product(range(3), repeat=3):
        machine = least_machine((((0, 0, 1), one), (0, 1, 2)))
        for late in ((0,), (1,)):
            yield machine, late


def faults(seed, count=60, states=3, kinds=2):
    for machine, late in least_cases(seed, count, states, kinds):
        paper = walkers_paper(machine, late)
        if paper is not None:
            yield machine, late, paper


def is_number(value, limit):
    return isinstance(value, int) and not isinstance(value, bool) and 0 <= value < limit


def is_stirred(machine, late, value):
    return isinstance(value, tuple) and all(
        isinstance(letter, tuple) and len(letter) == 2 and is_number(letter[0], len(machine[0]))
        and is_number(letter[1], 2) and (letter[1] == 0 or letter[0] in late) for letter in value
    )


def judged(machine, late, value):
    """Whether a value is a paper of walkers, state by state."""
    if not isinstance(value, tuple) or len(value) < 3:
        return False
    states = value[1]
    if not (isinstance(states, tuple) and len(states) == 3):
        return False
    if not all(is_number(state, len(machine[1])) for state in states):
        return False
    if value[0] == "alone" and len(value) == 3:
        q, z, w = states
        if not is_stirred(machine, late, value[2]):
            return False
        turn = [kind for kind, put in value[2] if put == 0]
        whole = [kind for kind, _ in value[2]]
        ends = [run(machine, state, turn) for state in (q, z)] + [run(machine, state, whole) for state in (q, z, w)]
        return w != q and ends == [z, z, q, w, w]
    if value[0] == "swap" and len(value) == 6:
        q, r, t = states
        _, _, ahead, kind, put, behind = value
        if not (is_stirred(machine, late, ahead) and is_stirred(machine, late, behind)):
            return False
        if not (is_number(kind, len(machine[0])) and is_number(put, len(machine[0])) and put in late):
            return False
        turn = [one for one, is_put in (*ahead, (kind, 0), *behind) if is_put == 0]
        first, last = [one for one, _ in ahead], [one for one, _ in behind]
        ends = [run(machine, state, turn) for state in states]
        ends += [run(machine, q, [*first, kind, put, *last]), run(machine, q, [*first, put, kind, *last])]
        return r != t and ends == [q, r, t, r, t]
    return False


def by_map(machine, *words):
    """The map of several words, one behind another."""
    return [run(machine, state, [kind for word in words for kind in word]) for state in range(len(machine[1]))]


def letters_in(paper):
    return len(paper[2]) if paper[0] == "alone" else len(paper[2]) + 2 + len(paper[5])


class PapersTest(Case):
    def test_examples(self):
        self.assertIs(walkers_paper(VALVE, (0,)), None)
        self.assertIs(walkers_paper(LAST, (0, 1)), None)
        self.assertIs(walkers_paper((((0,),), (5,)), (0,)), None)
        self.assertEqual(walkers_paper(VALVE, (0, 1))[0], "swap")
        self.assertIs(walkers_hold(VALVE, (0, 1), SWAP), True)
        self.assertIs(walkers_hold(VALVE, (0, 1), ("swap", (0, 1, 0), (), 0, 1, ((0, 0), (0, 0)))), False)
        self.assertIs(walkers_hold(VALVE, (0, 1), ("swap", (0, 0, 1), (), 0, 1, ((0, 0),))), False)
        self.assertIs(walkers_hold(VALVE, (1,), SWAP), True)
        self.assertIs(walkers_hold(VALVE, (0,), SWAP), False)

    def test_just_where_loops_do_not_forget(self):
        told = {None: 0, "swap": 0, "alone": 0}
        for machine, late in least_cases(3001, 150, 3, 3):
            paper = walkers_paper(machine, late)
            told[paper and paper[0]] += 1
            self.assertIs(paper is None, loops_forget(machine, late))
            if paper is not None:
                states = len(machine[1])
                self.assertFalse(has_list(paper))
                self.assertTrue(judged(machine, late, paper))
                self.assertIs(walkers_hold(machine, late, paper), True)
                self.assertLessEqual(letters_in(paper), states ** 4 + states ** 5)
        self.assertGreater(min(told.values()), 2)

    def test_four_states(self):
        for machine, late, paper in faults(3002, 25, 4, 2):
            self.assertTrue(judged(machine, late, paper))

    def test_sizes(self):
        self.assertEqual(least_machine(FIVE), FIVE)
        self.refuses(InvalidSize, "states", walkers_paper, FIVE, (0, 1))
        self.refuses(InvalidLate, 0, walkers_paper, FIVE, (2,))
        self.assertIs(walkers_hold(FIVE, (0, 1), ()), False)
        # Closings put in, a full ring of turns.
        paper = ("swap", (0, 1, 0), (), 0, 1, ((0, 0),) * 4)
        self.assertIs(walkers_hold(FIVE, (0, 1), paper), judged(FIVE, (0, 1), paper))
        self.refuses(InvalidSize, "maps", walk_of_court, MAPS_61, (0,), ())
        self.refuses(InvalidPaper, -1, walk_of_court, MAPS_60, (0,), ())
        self.refuses(InvalidPaper, -1, court_of_walk, MAPS_61, (0,), ())

    def test_changed_papers(self):
        odd = (None, True, False, -1, 0, 1, 2, "x", (), [])
        seen = {}
        for machine, late, paper in faults(3003, 200):
            if seen.setdefault(paper[0], 0) < 6:
                seen[paper[0]] += 1
                for value in changed_papers(paper, odd):
                    wanted = not has_list(value) and judged(machine, late, value)
                    self.assertIs(walkers_hold(machine, late, value), wanted, (machine, late, value))
        self.assertEqual(sorted(seen), ["alone", "swap"])
        for value in ODD_VALUES:
            self.assertIs(walkers_hold(VALVE, (0, 1), value), False)
            self.refuses(InvalidPaper, -1, court_of_walk, VALVE, (0, 1), value)
            self.refuses(InvalidPaper, -1, rising_word, VALVE, (0, 1), value, 99)

    def test_longer_papers_hold(self):
        for machine, late, paper in faults(3004, 80):
            if paper[0] == "alone":
                _, (q, z, w), stirred = paper
                self.assertIs(walkers_hold(machine, late, ("alone", (q, z, w), stirred * 3)), True)
            else:
                _, states, ahead, kind, put, behind = paper
                turn = [one for one, is_put in (*ahead, (kind, 0), *behind) if is_put == 0]
                more = tuple((one, 0) for one in turn)
                for many in (1, 500):
                    longer = ("swap", states, more * many + ahead, kind, put, behind + more)
                    self.assertIs(walkers_hold(machine, late, longer), True)

    def test_chance_papers(self):
        chance = Chance(3005)
        told = {True: 0, False: 0}
        for machine, late in least_cases(3005, 100, 3, 2):
            for _ in range(20):
                letters = [
                    (chance.below(len(machine[0])), chance.below(2)) for _ in range(chance.below(5))
                ]
                stirred = tuple((kind, put if kind in late else 0) for kind, put in letters)
                states = chance.word(len(machine[1]), 3)
                kind, put = chance.below(len(machine[0])), chance.below(len(machine[0]))
                for value in (("alone", states, stirred), ("swap", states, stirred[:2], kind, put, stirred[2:])):
                    wanted = judged(machine, late, value)
                    told[wanted] += 1
                    self.assertIs(walkers_hold(machine, late, value), wanted)
        self.assertGreater(told[True], 3)


class CourtTest(Case):
    def test_there_and_back(self):
        told = {"amid": 0, "alone": 0}
        for machine, late, paper in faults(3006, 250, 3, 2):
            try:
                court = court_of_walk(machine, late, paper)
                self.assertIs(court_holds(machine, late, court), True)
            except InvalidSize:
                continue
            self.assertEqual(court[0], {"swap": "amid", "alone": "alone"}[paper[0]])
            for value in (court, court_paper(machine, late)):
                told[value[0]] += 1
                walk = walk_of_court(machine, late, value)
                self.assertFalse(has_list((court, walk)))
                self.assertTrue(judged(machine, late, walk))
                self.assertEqual(walk[0], {"amid": "swap", "alone": "alone"}[value[0]])
                again = court_of_walk(machine, late, walk)
                self.assertIs(court_holds(machine, late, again), True)
        self.assertGreater(min(told.values()), 5)

    def test_turns_that_are_idempotent_only_several_times(self):
        for machine, late in SEVERAL:
            paper = walkers_paper(machine, late)
            name, stirred = court_of_walk(machine, late, paper)
            self.assertTrue(is_stirred(machine, late, stirred))
            words = [[kind for kind, put in stirred if put in puts] for puts in ((0,), (1,), (0, 1))]
            f, s, r = words
            self.is_just(by_map(machine, f, f), by_map(machine, f))
            if name == "amid":
                self.assertNotEqual(by_map(machine, f, r, f), by_map(machine, f, s, f))
            else:
                self.is_just(by_map(machine, r, r), by_map(machine, r))
                self.assertNotEqual(by_map(machine, r, f, r), by_map(machine, r))

    def test_stirred_words_of_all_forms(self):
        """Papers of the court that are not the shortest: with a turn more, repeated, and found by chance."""
        chance = Chance(3007)
        told = 0
        for machine, late, _ in faults(3007, 60, 3, 2):
            for _ in range(15):
                letters = [(chance.below(len(machine[0])), chance.below(2)) for _ in range(1 + chance.below(5))]
                stirred = tuple((kind, put if kind in late else 0) for kind, put in letters) * chance.pick((1, 2, 6))
                for name in ("amid", "alone"):
                    value = (name, stirred)
                    if not court_holds(machine, late, value):
                        self.refuses(InvalidPaper, -1, walk_of_court, machine, late, value)
                        continue
                    told += 1
                    self.assertTrue(judged(machine, late, walk_of_court(machine, late, value)))
        self.assertGreater(told, 20)

    def test_papers_that_do_not_hold(self):
        level = court_paper(VALVE, (0,))
        self.assertEqual(level[0], "level")
        self.refuses(InvalidPaper, -1, walk_of_court, VALVE, (0,), level)
        self.refuses(InvalidPaper, -1, court_of_walk, VALVE, (0,), level)
        amid = court_paper(VALVE, (0, 1))
        for value in (amid[:1], list(amid), (amid[0], list(amid[1])), ("alone", amid[1]), (amid[0], ()), *ODD_VALUES):
            self.refuses(InvalidPaper, -1, walk_of_court, VALVE, (0, 1), value)
        self.refuses(InvalidPaper, -1, walk_of_court, VALVE, (0,), amid)
        self.refuses(InvalidPaper, -1, court_of_walk, VALVE, (0,), walkers_paper(VALVE, (0, 1)))


class RisingTest(Case):
    def test_words(self):
        for machine, late, paper in faults(3008, 80):
            if paper[0] == "alone":
                turn = [kind for kind, put in paper[2] if put == 0]
            else:
                turn = [kind for kind, put in (*paper[2], (paper[3], 0), *paper[5]) if put == 0]
            way = reach_words(machine)[paper[1][0]]
            for many in (0, 1, 7, 60):
                word = (*way, *turn * (many + 1))
                if len(word) > 400:
                    self.refuses(InvalidSize, "letters", rising_word, machine, late, paper, many)
                    continue
                self.is_just(rising_word(machine, late, paper, many), word)
                self.assertGreaterEqual(len(needed_news(machine, late, word)), many)

    def test_sizes(self):
        paper = walkers_paper(VALVE, (0, 1))
        for many in (61, -1, True, None, "3", (3,)):
            self.refuses(InvalidSize, "many", rising_word, VALVE, (0, 1), paper, many)
        self.refuses(InvalidPaper, -1, rising_word, VALVE, (0, 1), (), 61)
        _, states, ahead, kind, put, behind = paper
        turn = [one for one, is_put in (*ahead, (kind, 0), *behind) if is_put == 0]
        long = ("swap", states, ahead, kind, put, behind + tuple((one, 0) for one in turn) * 60)
        self.assertIs(walkers_hold(VALVE, (0, 1), long), True)
        self.refuses(InvalidSize, "letters", rising_word, VALVE, (0, 1), long, 60)
        self.refuses(InvalidSize, "many", rising_word, VALVE, (0, 1), long, 61)
        self.assertEqual(len(rising_word(VALVE, (0, 1), long, 0)), len(turn) * 61 + len(reach_words(VALVE)[states[0]]))
        # A word of just 400 letters, and one of a turn more.
        for letters, many in ((10, 39), (20, 19), (400, 0)):
            exact = ("swap", (0, 1, 0), (), 0, 1, ((0, 0),) * (letters - 1))
            self.is_just(rising_word(VALVE, (0, 1), exact, many), (0,) * 400)
            self.refuses(InvalidSize, "letters", rising_word, VALVE, (0, 1), exact, many + 1)

    def test_order_of_errors(self):
        not_least = (((1, 2, 1), (0, 0, 0)), (0, 1, 0))
        for call, told in (
            (walkers_paper, ()), (walkers_hold, (5,)), (court_of_walk, (5,)), (walk_of_court, (5,)), (rising_word, (5, 99)),
        ):
            self.refuses(InvalidMachine, -1, call, not_least, (9,), *told)
            self.refuses(InvalidMachine, 0, call, (((2, 0), (0, 0)), (0, 1)), (9,), *told)
            self.refuses(InvalidLate, 0, call, VALVE, (9,), *told)
        paper = walkers_paper(VALVE, (0, 1))
        self.is_just(walkers_paper(as_lists(VALVE), [1, 0]), paper)
        self.assertIs(walkers_hold(VALVE, (0, 1), as_lists(paper)), False)
