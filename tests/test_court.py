"""Promises [27] to [29]."""

import itertools

from forgetwhen.court import (
    court_holds, court_paper, deep_turns, loops_forget, plain_forget, stirred_maps, stirred_turns,
)
from forgetwhen.errors import InvalidIndex, InvalidLate, InvalidMachine, InvalidSize, InvalidWord, Refused
from forgetwhen.least import is_least, least_machine, machine_count, nth_machine
from forgetwhen.maps import all_maps, idempotents
from forgetwhen.needed import needed_news
from tests.support import (
    LATCH, ODD_VALUES, VALVE, Case, Chance, all_words, as_lists, changed_papers, has_list, lots_of, mixed_machines,
)
from tests.test_maps import ALL_OF_FIVE, ALL_OF_FOUR, ALL_OF_THREE, CYCLE, MAPS_300, MAPS_301, NOT_LEAST, square

ONE = (((0,),), (7,))
# Just so many maps as are let in the court and where loops are looked at plainly, and one more.
MAPS_60 = (((1, 2, 3, 4, 0), (2, 2, 1, 1, 1)), (0, 3, 4, 1, 2))
MAPS_61 = (((1, 2, 0, 1), (2, 3, 3, 0)), (0, 3, 1, 2))
MAPS_24 = (((0, 1, 1), (1, 2, 0)), (0, 2, 1))
MAPS_25 = (((0, 2, 3, 1), (1, 0, 0, 1)), (0, 2, 1, 3))
# A chain of six states: a step up, a step down, and back to the first one.
CHAIN = (((1, 2, 3, 4, 5, 5), (0, 0, 1, 2, 3, 4), (0, 0, 0, 0, 0, 0)), (0, 1, 2, 3, 4, 5))


# Here products of two stirred turns are fewer than the stirred turns of map 18.
DEEP = (((1, 3, 1, 0), (2, 1, 0, 2), (0, 1, 2, 2)), (0, 2, 1, 2))


def small_least(states=2, kinds=2, shown=2, step=1):
    for number in range(0, machine_count(states, kinds, shown), step):
        machine = nth_machine(states, kinds, shown, number)
        if is_least(machine):
            yield machine


def mixed_least(seed, count=40, states=3, kinds=2):
    return [least_machine(machine) for machine in mixed_machines(count, seed, states, kinds)]


def letters_of(machine, late):
    return sorted([(kind, 0) for kind in range(len(machine[0]))] + [(kind, 1) for kind in late])


def stirred_words(machine, late, longest):
    for many in range(longest + 1):
        yield from itertools.product(letters_of(machine, late), repeat=many)


def chained(machine, *maps):
    whole = tuple(range(len(machine[1])))
    for one in maps:
        whole = tuple(one[state] for state in whole)
    return whole


def maps_by_force(machine, stirred):
    turn = [kind for kind, put in stirred if put == 0]
    added = [kind for kind, put in stirred if put == 1]
    return tuple(
        chained(machine, *[machine[0][kind] for kind in word]) for word in (turn, added, [kind for kind, _ in stirred])
    )


def is_against(machine, fault, stirred):
    turn, added, whole = maps_by_force(machine, stirred)
    if square(turn) != turn:
        return False
    if fault == "amid":
        return chained(machine, turn, whole, turn) != chained(machine, turn, added, turn)
    return square(whole) == whole and chained(machine, whole, turn, whole) != whole


def closed_rows(machine, late):
    """All rows (turn, all, put in) of stirred words, one letter at a time."""
    numbers = {one: number for number, (_, one) in enumerate(all_maps(machine))}
    rows, new = set(), {(chained(machine),) * 3}
    while new:
        rows |= new
        behind = set()
        for turn, whole, added in new:
            for kind, put in letters_of(machine, late):
                one = machine[0][kind]
                longer = chained(machine, whole, one)
                if put:
                    behind.add((turn, longer, chained(machine, added, one)))
                else:
                    behind.add((chained(machine, turn, one), longer, added))
        new = behind - rows
    return tuple(sorted(tuple(numbers[one] for one in row) for row in rows))


class StirredMapsTest(Case):
    def test_examples(self):
        self.is_just(stirred_maps(VALVE, (0,), ()), ((0, 1), (0, 1), (0, 1)))
        self.is_just(stirred_maps(VALVE, (0,), ((1, 0), (0, 1))), ((0, 0), (1, 0), (1, 1)))
        self.is_just(stirred_maps(VALVE, (0,), ((0, 1), (1, 0))), ((0, 0), (1, 0), (0, 0)))
        self.is_just(stirred_maps(VALVE, [0], [[0, 0], (0, 1), [0, 0]]), ((0, 1), (1, 0), (1, 0)))

    def test_by_force(self):
        for machine in mixed_least(90, 20):
            for late in lots_of(len(machine[0])):
                for stirred in stirred_words(machine, late, 3):
                    self.is_just(stirred_maps(machine, late, stirred), maps_by_force(machine, stirred))

    def test_many_letters(self):
        self.is_just(stirred_maps(VALVE, (0,), ((0, 1),) * 399 + ((0, 0),)), ((1, 0), (1, 0), (0, 1)))
        self.refuses(InvalidWord, -1, stirred_maps, VALVE, (0,), ((0, 1),) * 401)
        self.refuses(InvalidWord, -1, stirred_maps, VALVE, (0,), (None,) * 401)
        for value in (None, 0, True, "", "ab"):
            self.refuses(InvalidWord, -1, stirred_maps, VALVE, (0,), value)

    def test_wrong_letters(self):
        for wrong in (
            None, 0, "00", (), (0,), (0, 0, 0), (2, 0), (-1, 0), (True, 0), (0, True), (0, 2), (0, -1), (0, None),
            (1, 1), ([0], 0), ("0", 0),
        ):
            self.refuses(InvalidWord, 0, stirred_maps, VALVE, (0,), (wrong, wrong))
            self.refuses(InvalidWord, 2, stirred_maps, VALVE, (0,), ((0, 1), (1, 0), wrong))
        self.refuses(InvalidWord, 1, stirred_maps, VALVE, (1,), ((1, 1), (0, 1)))
        self.refuses(InvalidWord, 399, stirred_maps, VALVE, (), ((0, 0),) * 399 + ((0, 1),))

    def test_more_maps_than_are_let_elsewhere(self):
        self.is_just(stirred_maps(ALL_OF_FIVE, (0,), ((0, 1),)), ((0, 1, 2, 3, 4), (1, 2, 3, 4, 0), (1, 2, 3, 4, 0)))


class TurnsTest(Case):
    def test_examples(self):
        self.is_just(stirred_turns(VALVE, (), 2), ((2, ((1, 0),)),))
        self.is_just(stirred_turns(VALVE, (0,), 2), ((2, ((1, 0),)), (3, ((1, 0), (0, 1)))))
        self.is_just(stirred_turns(VALVE, (0,), 0), ((0, ()), (1, ((0, 1),))))
        self.is_just(stirred_turns(ONE, (0,), 0), ((0, ()),))
        self.is_just(deep_turns(VALVE, (0, 1), 0), (1, (0, 1, 2, 3)))
        self.is_just(deep_turns(VALVE, [], 2), (1, (2,)))
        self.is_just(deep_turns(ONE, (0,), 0), (1, (0,)))

    def test_by_force(self):
        for machine in [*mixed_least(91, 30), LATCH]:
            numbers = {one: number for number, (_, one) in enumerate(all_maps(machine))}
            for late in lots_of(len(machine[0])):
                found = {}
                for stirred in stirred_words(machine, late, 6):
                    turn, _, whole = maps_by_force(machine, stirred)
                    found.setdefault((turn, whole), stirred)
                for number in idempotents(machine):
                    told = stirred_turns(machine, late, number)
                    wanted = [
                        (numbers[whole], stirred) for (turn, whole), stirred in found.items() if numbers[turn] == number
                    ]
                    self.is_just(tuple(pair for pair in told if len(pair[1]) <= 6), tuple(wanted))
                    self.assertEqual(len({one for one, _ in told}), len(told))
                    for one, stirred in told:
                        turn, _, whole = maps_by_force(machine, stirred)
                        self.assertEqual((numbers[turn], numbers[whole]), (number, one))
                    self.assertFalse(has_list(told))

    def test_deep_by_force(self):
        depths = set()
        for machine in [*mixed_least(92, 60), DEEP, LATCH]:
            told = [one for _, one in all_maps(machine)]
            for late in lots_of(len(machine[0])):
                for number in idempotents(machine):
                    turns = {told[one] for one, _ in stirred_turns(machine, late, number)}
                    products = [turns]
                    while len(products) < 2 or products[-1] != products[-2]:
                        products.append({chained(machine, one, turn) for one in products[-1] for turn in turns})
                        self.assertLessEqual(products[-1], products[-2])
                    wanted = (len(products) - 1, tuple(sorted(told.index(one) for one in products[-1])))
                    self.is_just(deep_turns(machine, late, number), wanted)
                    depths.add(wanted[0])
        self.assertEqual(depths, {1, 2})
        self.is_just(deep_turns(DEEP, (2,), 18)[0], 2)

    def test_chain_and_many_maps(self):
        for number in idempotents(CHAIN)[:4]:
            self.assertIn(number, [one for one, _ in stirred_turns(CHAIN, (2, 0), number)])
        self.assertEqual(len(stirred_turns(ALL_OF_FOUR, (0, 1, 2), 0)), 256)
        self.is_just(deep_turns(ALL_OF_FOUR, (0, 1, 2), 0), (1, tuple(range(256))))
        self.assertEqual(stirred_turns(MAPS_300, (0,), 0)[0], (0, ()))

    def test_order_of_errors(self):
        for call in (stirred_turns, deep_turns):
            self.refuses(InvalidMachine, -1, call, NOT_LEAST, 0, None)
            self.refuses(InvalidLate, -1, call, ALL_OF_FIVE, 0, None)
            for machine in (ALL_OF_FIVE, MAPS_301):
                for number in (None, -1, 1, 9999, True):
                    self.refuses(InvalidSize, "maps", call, machine, (0,), number)
            for wrong in ODD_VALUES:
                self.refuses(InvalidIndex, -1, call, VALVE, (0,), wrong)
            self.refuses(InvalidIndex, -1, call, VALVE, (0,), 4)
            self.refuses(Refused, -1, call, VALVE, (0,), 1)


class CourtTest(Case):
    def test_examples(self):
        self.is_just(court_paper(VALVE, ()), ("level", ((0, 0, 0), (1, 1, 0), (2, 2, 0), (3, 3, 0))))
        self.is_just(court_paper(ONE, (0,)), ("level", ((0, 0, 0),)))
        self.assertIs(loops_forget(VALVE, (0,)), True)
        self.assertIs(loops_forget(VALVE, (0, 1)), False)
        self.assertIs(loops_forget(VALVE, [1]), False)
        self.assertIs(loops_forget(LATCH, (0, 1)), True)

    def test_papers_that_are_made(self):
        kinds = {}
        for machine in [*small_least(), *small_least(3, 2, 2, 31), *mixed_least(94, 30)]:
            for late in lots_of(len(machine[0])):
                paper = court_paper(machine, late)
                self.assertFalse(has_list(paper))
                self.assertIs(court_holds(machine, late, paper), True)
                self.assertIs(loops_forget(machine, late), paper[0] == "level")
                rows = closed_rows(machine, late)
                self.assertIs(court_holds(machine, late, ("level", rows)), paper[0] == "level")
                if paper[0] == "level":
                    self.assertEqual(paper[1], tuple(sorted(set(paper[1]))))
                    self.assertLessEqual(set(rows), set(paper[1]))
                else:
                    self.assertTrue(is_against(machine, *paper))
                kinds[paper[0]] = kinds.get(paper[0], 0) + 1
        self.assertEqual(set(kinds), {"level", "amid", "alone"})
        self.assertGreater(min(kinds.values()), 5)

    def test_no_fault_by_force(self):
        for machine in mixed_least(96, 40):
            for late in lots_of(len(machine[0])):
                level = loops_forget(machine, late)
                for stirred in stirred_words(machine, late, 4):
                    for fault in ("amid", "alone"):
                        against = is_against(machine, fault, stirred)
                        self.assertFalse(level and against)
                        self.assertIs(court_holds(machine, late, (fault, stirred)), against)

    def test_bounded_needed_news(self):
        """Loops forget when exactly if the needed news of records are bounded."""
        for machine in small_least():
            for late in lots_of(2):
                counts = [
                    max(len(needed_news(machine, late, word)) for word in all_words(2, many)) for many in (3, 6)
                ]
                self.assertEqual(loops_forget(machine, late), counts[0] == counts[1])

    def test_level_papers_changed(self):
        _, rows = court_paper(VALVE, (0,))
        self.assertIs(court_holds(VALVE, (0,), ("level", rows)), True)
        for wrong in (
            rows[1:], rows[:-1], rows[::-1], rows + rows[-1:], rows[:1] + rows, (), ((0, 0, 0),), list(rows), None, 3,
            rows[:3] + rows[4:], ((0, 0, False), *rows[1:]), (*rows[:-1], list(rows[-1])), (*rows, (4, 0, 0)),
            (*rows, (3, 3)), (*rows, (3, 3, 3, 3)), (*rows, (0, 0, -1)), ((-1, 0, 0), *rows), (*rows, "abc"),
        ):
            self.assertIs(court_holds(VALVE, (0,), ("level", wrong)), False, wrong)
        self.assertIs(court_holds(VALVE, (0,), ["level", rows]), False)
        self.assertIs(court_holds(VALVE, (0,), ("level", rows, ())), False)
        self.assertIs(court_holds(VALVE, (0,), ("amid", rows)), False)

    def test_more_rows_than_there_are_words_for(self):
        # Without late kinds nothing is put in; rows as if turns had been put in are closed in themselves, too.
        _, rows = court_paper(VALVE, ())
        _, more = court_paper(VALVE, (0,))
        self.assertGreater(len(more), len(rows))
        self.assertIs(court_holds(VALVE, (), ("level", more)), True)
        self.assertIs(court_holds(VALVE, (0,), ("level", rows)), False)
        self.assertIs(court_holds(VALVE, (), ("level", rows + ((3, 2, 0),))), False)

    def test_faults_changed(self):
        fault, stirred = court_paper(VALVE, (0, 1))
        self.is_just(fault, "amid")
        for wrong in (
            stirred[:-1], stirred[1:], list(stirred), (list(stirred[0]), *stirred[1:]), ((0, False), *stirred[1:]),
            (*stirred, None), (*stirred, (2, 0)), (*stirred, (0, 2)), (), None, 3, (*stirred, (0, 0, 0)), "amid",
        ):
            self.assertIs(court_holds(VALVE, (0, 1), (fault, wrong)), False, wrong)
        self.assertIs(court_holds(VALVE, (0,), (fault, stirred)), False)
        self.assertIs(court_holds(VALVE, (0, 1), ("level", stirred)), False)
        self.assertIs(court_holds(VALVE, (0, 1), ("alone", stirred)), False)
        for many in (3, 401, 2001):
            # However long: an odd number of times it is the same fault.
            longer = ((0, 0), (0, 0)) * many + stirred
            self.assertIs(court_holds(VALVE, (0, 1), (fault, longer)), is_against(VALVE, fault, stirred))
            self.assertIs(court_holds(VALVE, (0, 1), (fault, stirred * many)), is_amid_by_states(stirred * many))

    def test_alone(self):
        found = 0
        for machine in small_least(3, 2, 2, 31):
            for late in lots_of(len(machine[0])):
                paper = court_paper(machine, late)
                if paper[0] == "alone":
                    found += 1
                    self.assertIs(court_holds(machine, late, ("amid", paper[1])), is_against(machine, "amid", paper[1]))
                    self.assertIs(court_holds(machine, late, ("alone", paper[1] * 3)), True)
                    self.assertIs(court_holds(machine, late, ("alone", paper[1] * 601)), True)
                    for word in ("level", "apart", "", None, 0):
                        self.assertIs(court_holds(machine, late, (word, paper[1])), False)
        self.assertGreater(found, 3)

    def test_any_value(self):
        for late in ((0,), (0, 1)):
            for value in ODD_VALUES:
                self.assertIs(court_holds(VALVE, late, value), False)
            for value in changed_papers(court_paper(VALVE, late)):
                holds = court_holds(VALVE, late, value)
                self.assertIn(holds, (True, False))
                if has_list(value) or "True" in repr(value):
                    self.assertIs(holds, False)

    def test_order_of_errors(self):
        for call in (court_paper, loops_forget, lambda *arguments: court_holds(*arguments, None)):
            self.refuses(InvalidMachine, -1, call, NOT_LEAST, (9,))
            self.refuses(InvalidMachine, 0, call, (((2, 0),), (0, 1)), (9,))
            self.refuses(InvalidLate, 0, call, ALL_OF_FIVE, (9,))
            for machine in (ALL_OF_FIVE, ALL_OF_FOUR, MAPS_61, MAPS_300):
                self.refuses(InvalidSize, "maps", call, machine, (0,))
            self.assertIn(call(MAPS_60, ())[0] if call is court_paper else call(MAPS_60, ()), ("level", True, False))
        self.assertIs(court_holds(MAPS_60, (1,), court_paper(MAPS_60, (1,))), True)
        self.assertIs(court_holds(ALL_OF_THREE, (0, 2), court_paper(ALL_OF_THREE, (0, 2))), True)


def is_amid_by_states(stirred):
    """For the valve: whether a stirred word is against (A), from state to state."""
    maps = []
    for wanted in ((0,), (1,), (0, 1)):
        word = [kind for kind, put in stirred if put in wanted]
        ends = []
        for state in (0, 1):
            for kind in word:
                state = VALVE[0][kind][state]
            ends.append(state)
        maps.append(ends)
    turn, added, whole = maps
    if [turn[state] for state in turn] != turn:
        return False
    return [turn[whole[state]] for state in turn] != [turn[added[state]] for state in turn]


class PlainTest(Case):
    def test_like_the_court(self):
        told = {True: 0, False: 0}
        machines = [*small_least(), *small_least(3, 1), *small_least(3, 2, 2, 31), ONE, VALVE, LATCH, MAPS_24]
        for machine in machines:
            if len(all_maps(machine)) > 24:
                continue
            for late in lots_of(len(machine[0])):
                plain = plain_forget(machine, late)
                self.assertIs(plain, loops_forget(machine, late))
                told[plain] += 1
        self.assertGreater(min(told.values()), 20)

    def test_cuts_by_force(self):
        """All cuts into at most three parts, by the words of the promise."""
        for machine in [*small_least(), *mixed_least(99, 12, 2, 2)]:
            told = [one for _, one in all_maps(machine)]
            for late in lots_of(len(machine[0])):
                wrong = False
                for number in idempotents(machine):
                    f, deep = told[number], [told[one] for one in deep_turns(machine, late, number)[1]]
                    for k in (1, 2):
                        for parts in itertools.product(told, repeat=k + 1):
                            if chained(machine, *parts) != f:
                                continue
                            for added in itertools.product(late, repeat=k):
                                cut, whole = [parts[0]], [f]
                                for kind, part in zip(added, parts[1:]):
                                    cut += [machine[0][kind], part]
                                    whole += [machine[0][kind], f]
                                one, other = chained(machine, *cut), chained(machine, *whole)
                                wrong = wrong or any(
                                    chained(machine, p, one, q) != chained(machine, p, other, q)
                                    for p in deep for q in deep
                                )
                self.assertFalse(wrong and plain_forget(machine, late))
                # For machines as small as these no cut into more parts is needed.
                self.assertEqual(plain_forget(machine, late), not wrong)

    def test_order_of_errors(self):
        self.refuses(InvalidMachine, -1, plain_forget, NOT_LEAST, None)
        self.refuses(InvalidLate, -1, plain_forget, ALL_OF_FIVE, None)
        for machine in (ALL_OF_FIVE, ALL_OF_FOUR, ALL_OF_THREE, MAPS_25, MAPS_60):
            self.refuses(InvalidSize, "maps", plain_forget, machine, (0,))
        self.is_just(plain_forget(MAPS_24, (0,)), loops_forget(MAPS_24, (0,)))
        self.assertIs(plain_forget(as_lists(VALVE), [0]), True)
        self.assertIs(plain_forget(VALVE, (0, 1)), False)
        self.assertIs(plain_forget(CYCLE, (0,)), True)
