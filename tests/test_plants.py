"""Promises [47] and [48]: plants put together, and readers."""

import itertools

from forgetwhen.errors import (
    InvalidLate, InvalidLot, InvalidMachine, InvalidPlant, InvalidSize, InvalidState, InvalidWord,
)
from forgetwhen.least import rounds
from forgetwhen.machines import reach_words, word_readings
from forgetwhen.plants import (
    by_words, kinds_apart, kinds_shared, need_reader, places_read, read_by, reader_places, relayed, setters,
)
from forgetwhen.ways import marks_needed
from tests.support import (
    EIGHT, LAST, LATCH, ODD_VALUES, RING, VALVE, Case, Chance, all_words, as_lists, lots_of, mixed_machines, run,
)

ONE_KIND = (((1, 2, 0),), (0, 1, 2))
TURN = (((1, 0),), (3, 8))
# One kind, two values: the first leads to 0, the second to 1.
SETS = ((((0, 0), (1, 1)),), (0, 1))
# Two kinds, three values.
MIXED = ((((1, 0, 2), (0, 1, 2), (2, 2, 2)), ((0, 0, 0), (0, 1, 2), (1, 2, 0))), (0, 1, 1))


def put_together(begin, kinds, behind, shown):
    """(maps, readings) of the states that come, as first come to: state by state, kind by kind."""
    states = [begin]
    maps = [[] for _ in range(kinds)]
    for state in states:
        for kind in range(kinds):
            came = behind(state, kind)
            if came not in states:
                states.append(came)
            maps[kind].append(states.index(came))
    names = []
    for state in states:
        if shown(state) not in names:
            names.append(shown(state))
    return (tuple(tuple(one) for one in maps), tuple(names.index(shown(state)) for state in states))


def unless_too_many(call, *arguments):
    """What is returned, or None for more than 8 states."""
    try:
        return call(*arguments)
    except InvalidSize as error:
        assert error.word == "states"
        return None


def small_machines(count, seed, states=3, kinds=2, shown=3):
    return mixed_machines(count, seed, states=states, kinds=kinds, shown=shown)


class KindsApartTest(Case):
    def test_entry_by_entry(self):
        chance = Chance(47)
        made = 0
        for one, other in zip(small_machines(60, 48), small_machines(60, 49)):
            first = len(one[0])
            late, late_other = chance.lot(first), chance.lot(len(other[0]))

            def behind(pair, kind):
                if kind < first:
                    return (one[0][kind][pair[0]], pair[1])
                return (pair[0], other[0][kind - first][pair[1]])

            right = put_together(
                (0, 0), first + len(other[0]), behind, lambda pair: (one[1][pair[0]], other[1][pair[1]])
            )
            told = unless_too_many(kinds_apart, one, late, other, late_other)
            self.assertEqual(told is None, len(right[1]) > 8)
            if told is not None:
                made += 1
                self.is_just(told, (right, late + tuple(first + kind for kind in late_other)))
                marks = [marks_needed(one, late), marks_needed(other, late_other)]
                self.assertEqual(marks_needed(*told), None if None in marks else sum(marks))
        self.assertGreater(made, 30)

    def test_plain_one(self):
        self.is_just(
            kinds_apart(TURN, [0], TURN, []),
            ((((1, 0, 3, 2), (2, 3, 0, 1)), (0, 1, 2, 3)), (0,)),
        )
        # The states that come alone are told, readings as first come to.
        self.is_just(kinds_apart((((0, 0),), (9, 4)), (), TURN, (0,)), ((((0, 1), (1, 0)), (0, 1)), (1,)))

    def test_sizes(self):
        four = (((0,),) * 4, (0,))
        three = (((0,),) * 3, (0,))
        self.is_just(kinds_apart(three, (2,), (((0,),), (5,)), (0,)), ((((0,),) * 4, (0,)), (2, 3)))
        self.refuses(InvalidSize, "kinds", kinds_apart, four, (), TURN, ())
        self.refuses(InvalidSize, "kinds", kinds_apart, three, (), VALVE, ())
        self.refuses(InvalidSize, "kinds", kinds_apart, EIGHT, (), EIGHT, ())
        eight = (((1, 2, 3, 4, 5, 6, 7, 0),), tuple(range(8)))
        self.refuses(InvalidSize, "states", kinds_apart, eight, (), TURN, ())
        self.refuses(InvalidSize, "states", kinds_apart, ONE_KIND, (), ONE_KIND, ())
        self.assertEqual(len(kinds_apart(eight, (), (((0,),), (0,)), ())[0][1]), 8)
        self.assertEqual(len(kinds_apart((((1, 2, 3, 0),), (0, 1, 2, 3)), (), TURN, ())[0][1]), 8)

    def test_order_of_errors(self):
        four = (((0,),) * 4, (0,))
        self.refuses(InvalidLate, 0, kinds_apart, four, (4,), 3, 3)
        self.refuses(InvalidMachine, -1, kinds_apart, four, (), 3, 3)
        self.refuses(InvalidLate, -1, kinds_apart, four, (), four, 3)


class KindsSharedTest(Case):
    def test_entry_by_entry(self):
        chance = Chance(50)
        made = 0
        for one in small_machines(60, 51):
            other = chance.machine(1 + chance.below(3), len(one[0]), 2)
            right = put_together(
                (0, 0), len(one[0]), lambda pair, kind: (one[0][kind][pair[0]], other[0][kind][pair[1]]),
                lambda pair: (one[1][pair[0]], other[1][pair[1]]),
            )
            told = unless_too_many(kinds_shared, one, other)
            self.assertEqual(told is None, len(right[1]) > 8)
            if told is not None:
                made += 1
                self.is_just(told, right)
                for late in lots_of(len(one[0])):
                    marks = [marks_needed(machine, late) for machine in (one, other)]
                    both = marks_needed(told, late)
                    self.assertEqual(both is None, None in marks)
                    self.assertTrue(both is None or max(marks) <= both <= sum(marks))
        self.assertGreater(made, 30)

    def test_sizes(self):
        self.refuses(InvalidSize, "kinds", kinds_shared, VALVE, TURN)
        self.refuses(InvalidMachine, -1, kinds_shared, VALVE, 3)
        eight = (((1, 2, 3, 4, 5, 6, 7, 0),), tuple(range(8)))
        self.refuses(InvalidSize, "states", kinds_shared, eight, ONE_KIND)
        self.assertEqual(len(kinds_shared(eight, TURN)[1]), 8)
        steps = (((1, 2, 2), (0, 0, 0)), (0, 1, 2)), (((0, 0, 0), (1, 2, 2)), (0, 1, 2))
        self.assertEqual(len(kinds_shared(*steps)[1]), 5)
        self.is_just(kinds_shared(TURN, TURN), (((1, 0),), (0, 1)))
        self.is_just(kinds_shared(TURN, (((0, 0),), (5, 6))), (((1, 0),), (0, 1)))


def begun(machine, begin):
    """The machine with another begin: it and 0 have changed names."""
    names = list(range(len(machine[1])))
    names[0], names[begin] = begin, 0
    maps = tuple(tuple(names[one[name]] for name in names) for one in machine[0])
    return (maps, tuple(machine[1][name] for name in names))


class RelayedTest(Case):
    def test_entry_by_entry(self):
        chance = Chance(52)
        made = 0
        for one in small_machines(60, 53):
            other = chance.machine(1 + chance.below(3), len(one[0]), 3)
            begins = tuple(chance.below(len(other[1])) for _ in one[1])
            last = len(one[0])

            def behind(pair, kind):
                which, state = pair
                if kind == last:
                    return pair if which else (1, begins[state])
                return (which, (other if which else one)[0][kind][state])

            right = put_together(
                (0, 0), last + 1, behind, lambda pair: (pair[0], (other if pair[0] else one)[1][pair[1]])
            )
            told = unless_too_many(relayed, one, other, list(begins))
            self.assertEqual(told is None, len(right[1]) > 8)
            if told is not None:
                made += 1
                self.is_just(told, right)
        self.assertGreater(made, 30)

    def test_shows_one_and_then_the_other(self):
        machine = relayed(VALVE, LAST, (1, 0))
        for word in all_words(2, 3):
            for tail in all_words(3, 3):
                shown = word_readings(machine, (*word, 2, *tail))
                begin = (1, 0)[run(VALVE, 0, word)]
                wanted = [(0, VALVE[1][run(VALVE, 0, word[:many])]) for many in range(len(word) + 1)]
                for many in range(len(tail) + 1):
                    letters = [kind for kind in tail[:many] if kind != 2]
                    wanted.append((1, LAST[1][run(LAST, begin, letters)]))
                names = {name: reading for name, reading in zip(wanted, shown)}
                self.assertEqual([names[name] for name in wanted], list(shown))
                self.assertEqual(len(set(names.values())), len(names))

    def test_marks(self):
        chance = Chance(62)
        told = []
        for _ in range(400):
            kinds = 1 + chance.below(2)
            one, other = [chance.machine(1 + chance.below(3), kinds, 2) for _ in range(2)]
            begins = tuple(chance.below(len(other[1])) for _ in one[1])
            late = chance.lot(kinds)
            both = unless_too_many(relayed, one, other, begins)
            if both is None:
                continue
            # The first plant, read together with what the other one makes of its begin.
            alike = rounds(other)[-1]
            shown = [(reading, alike[begin]) for reading, begin in zip(one[1], begins)]
            first = (one[0], tuple(sorted(set(shown)).index(pair) for pair in shown))
            reached = {begin for begin, word in zip(begins, reach_words(one)) if word is not None}
            parts = [marks_needed(begun(other, begin), late) for begin in sorted(reached)]
            parts.append(marks_needed(first, late))
            most = marks_needed(both, late)
            told.append(most)
            self.assertEqual(most is None, None in parts)
            self.assertTrue(most is None or most <= 1 + sum(parts))
        self.assertGreater(min(told.count(None), told.count(1)), 10)

    def test_errors(self):
        four = (((0,),) * 4, (0,))
        self.refuses(InvalidSize, "kinds", relayed, VALVE, TURN, 3)
        self.refuses(InvalidSize, "kinds", relayed, four, four, 3)
        for value in (None, 3, (), (0,), (0, 1, 0), "01", {0: 1}):
            self.refuses(InvalidState, -1, relayed, VALVE, LAST, value)
        for odd in (2, -1, True, None, "0", (0,)):
            self.refuses(InvalidState, 0, relayed, VALVE, LAST, (odd, odd))
            self.refuses(InvalidState, 1, relayed, VALVE, LAST, (1, odd))
        eight = (((1, 2, 3, 4, 5, 6, 7, 0),), tuple(range(8)))
        self.refuses(InvalidState, 7, relayed, eight, TURN, (0,) * 7 + (2,))
        self.refuses(InvalidSize, "states", relayed, eight, TURN, (0,) * 8)
        self.assertEqual(len(relayed((((0,),) * 3, (0,)), (((0,),) * 3, (0,)), (0,))[0]), 4)
        # Eight states in all, and nine.
        four = (((1, 2, 3, 0),), (0, 1, 2, 3))
        five = (((1, 2, 3, 4, 0),), (0, 1, 2, 3, 4))
        self.assertEqual(len(relayed(four, four, (0, 1, 2, 3))[1]), 8)
        self.refuses(InvalidSize, "states", relayed, four, five, (0, 1, 2, 3))
        self.refuses(InvalidSize, "states", relayed, five, four, (0, 1, 2, 3, 0))


class ByWordsTest(Case):
    def test_entry_by_entry(self):
        chance = Chance(54)
        for machine in mixed_machines(60, 55):
            late = chance.lot(len(machine[0]))
            words = [chance.word(len(machine[0]), chance.below(4)) for _ in range(1 + chance.below(4))]
            told, lates = by_words(machine, late, words)
            states = range(len(machine[1]))
            self.is_just(told, (tuple(tuple(run(machine, s, word) for s in states) for word in words), machine[1]))
            self.is_just(lates, tuple(at for at, word in enumerate(words) if set(word) <= set(late)))
            most, by = marks_needed(machine, late), marks_needed(told, lates)
            self.assertTrue(most is None or by is not None and by <= most)

    def test_plain_ones(self):
        self.is_just(by_words(VALVE, [0], [[], [0, 0], (1, 0), (0,)]), ((((0, 1), (0, 1), (1, 1), (1, 0)), (0, 1)), (0, 1, 3)))
        self.is_just(by_words(VALVE, (), ((0,),)), ((((1, 0),), (0, 1)), ()))
        # States that no word leads to stay.
        self.is_just(by_words(RING, (), ((),)), ((((0, 1, 2, 3),), (0, 0, 0, 1)), (0,)))

    def test_errors(self):
        for value in (None, 3, (), ((),) * 5, "ab", {0: 1}):
            self.refuses(InvalidLot, -1, by_words, VALVE, (0,), value)
        for odd in (None, 3, (2,), (0, True), (0,) * 401, "0", {0: 1}):
            self.refuses(InvalidLot, 1, by_words, VALVE, (0,), [(0,), odd, odd])
        self.assertEqual(by_words(VALVE, (0,), ((0,) * 400,))[1], (0,))


class NeedReaderTest(Case):
    def test_right_ones(self):
        for reader in (SETS, MIXED, ((((0,),),), (99,)), ((((0,),) * 8,) * 3, (0,))):
            self.is_just(need_reader(as_lists(reader)), reader)
        eight = ((tuple(EIGHT[0]) * 2,), EIGHT[1])
        self.is_just(need_reader(eight), eight)

    def test_whole(self):
        one = ((0, 1), (1, 0))
        for value in (
            None, 3, (), (one,), ((one,), (0, 1), 0), ((), (0, 1)), ((one,) * 4, (0, 1)), ((one,), ()),
            ((one,), (0,) * 9), (3, (0, 1)), ((one,), 3), "ab", ("", (0, 1)),
        ):
            self.refuses(InvalidPlant, -1, need_reader, value)
        for value in ODD_VALUES:
            self.refuses(InvalidPlant, -1, need_reader, value)

    def test_first_wrong_kind(self):
        one = ((0, 1), (1, 0))
        for odd in (
            None, 3, (), ((0, 1),), one + ((0, 1),), ((0, 1), (1, 2)), ((0, 1), (1,)), ((0, 1), (1, True)),
            ((0, 1), 3), ((0, 1, 0), (0, 1, 0)), "ab", (one, one),
        ):
            self.refuses(InvalidPlant, 1, need_reader, ((one, odd, odd), (0, 100)))
        for odd in (None, 3, (), ((0, 1),) * 9, ((0, 1), (1, 2)), "ab"):
            self.refuses(InvalidPlant, 0, need_reader, ((odd, odd, one), (0, 100)))
        # As many values for all as the first kind has.
        self.refuses(InvalidPlant, 1, need_reader, ((one[:1], one), (0, 1)))

    def test_readings(self):
        one = ((0, 1), (1, 0))
        for odd in (100, -1, True, None, "0"):
            for many in (1, 2, 3):
                self.refuses(InvalidPlant, many, need_reader, ((one,) * many, (0, odd)))


class ReadByTest(Case):
    def test_entry_by_entry(self):
        chance = Chance(56)
        made = 0
        for plant in small_machines(60, 57):
            states, values = 1 + chance.below(3), 3
            kinds = tuple(
                tuple(tuple(chance.below(states) for _ in range(states)) for _ in range(values))
                for _ in range(1 + chance.below(2))
            )
            reader = (kinds, tuple(chance.below(2) for _ in range(states)))
            late = chance.lot(len(plant[0]))
            first = len(plant[0])

            def behind(pair, kind):
                if kind < first:
                    return (plant[0][kind][pair[0]], pair[1])
                return (pair[0], kinds[kind - first][plant[1][pair[0]]][pair[1]])

            right = put_together(
                (0, 0), first + len(kinds), behind, lambda pair: (plant[1][pair[0]], reader[1][pair[1]])
            )
            told = unless_too_many(read_by, plant, late, as_lists(reader))
            self.assertEqual(told is None, len(right[1]) > 8)
            if told is None:
                continue
            made += 1
            self.is_just(told, (right, late))
            places, most = reader_places(reader), marks_needed(plant, late)
            if places is not None and most is not None:
                self.assertLessEqual(marks_needed(*told), places * (most + 1) + most)
        self.assertGreater(made, 30)

    def test_order_of_errors(self):
        three = (((0,),) * 3, (5,))
        self.refuses(InvalidMachine, -1, read_by, 3, 3, 3)
        self.refuses(InvalidLate, -1, read_by, VALVE, 3, 3)
        self.refuses(InvalidPlant, -1, read_by, three, (), 3)
        self.refuses(InvalidSize, "kinds", read_by, three, (), MIXED)
        self.refuses(InvalidSize, "values", read_by, three, (), SETS)
        self.refuses(InvalidSize, "values", read_by, (((0, 0),), (1, 2)), (), SETS)
        eight = (((1, 2, 3, 4, 5, 6, 7, 0),), (0, 1) * 4)
        self.refuses(InvalidSize, "states", read_by, eight, (), SETS)
        self.refuses(InvalidSize, "values", read_by, (eight[0], (0, 2) * 4), (), SETS)
        self.assertEqual(read_by(VALVE, [0], SETS)[1], (0,))
        # Eight states in all, and nine.
        three, four = (((1, 2, 0),), (0, 1, 1)), (((1, 2, 3, 0),), (0, 1, 1, 0))
        steps = ((((0, 1, 2), (1, 2, 0)),), (0, 1, 2))
        self.assertEqual(len(read_by(four, (), ((((0, 1), (1, 0)),), (0, 1)))[0][1]), 8)
        self.refuses(InvalidSize, "states", read_by, three, (), steps)


class SettersTest(Case):
    def test_setters(self):
        self.is_just(setters(1), ((((0,),), (0,)), (0,)))
        self.is_just(setters(2), ((((0, 0), (1, 1)), (0, 1)), (0, 1)))
        for values in range(1, 5):
            machine, late = setters(values)
            self.is_just(late, tuple(range(values)))
            for word in all_words(values, 3):
                self.assertEqual(machine[1][run(machine, 0, word)], word[-1] if word else 0)
        for values in (0, 5, -1, True, None, "2", (2,)):
            self.refuses(InvalidSize, "values", setters, values)


def places_by_force(reader, word):
    """The places at which a value read there can part readings, with some values at the others, and some end."""
    kinds, readings = reader
    values = range(len(kinds[0]))
    pairs = {(x, y) for x in range(len(readings)) for y in range(len(readings)) if readings[x] != readings[y]}
    for _ in range(len(readings) ** 2):
        pairs |= {
            (x, y) for x in range(len(readings)) for y in range(len(readings)) for kind in kinds for v in values
            if (kind[v][x], kind[v][y]) in pairs
        }
    found = set()
    for read in itertools.product(values, repeat=len(word)):
        states = [0]
        for letter, value in zip(word, read):
            states.append(kinds[letter][value][states[-1]])
        for place, letter in enumerate(word):
            for other in values:
                state = kinds[letter][other][states[place]]
                for at in range(place + 1, len(word)):
                    state = kinds[word[at]][read[at]][state]
                if (states[-1], state) in pairs:
                    found.add(place)
    return tuple(sorted(found))


def mixed_readers(count, seed):
    chance = Chance(seed)
    for _ in range(count):
        states, values = 1 + chance.below(4), 1 + chance.below(3)
        kinds = tuple(
            tuple(tuple(chance.below(states) for _ in range(states)) for _ in range(values))
            for _ in range(1 + chance.below(2))
        )
        yield (kinds, tuple(chance.below(2) for _ in range(states)))


class ReaderPlacesTest(Case):
    def test_places_by_force(self):
        chance = Chance(58)
        for reader in mixed_readers(60, 59):
            for many in range(5):
                word = chance.word(len(reader[0]), many)
                self.is_just(places_read(as_lists(reader), list(word)), places_by_force(reader, word))

    def test_most_by_force(self):
        told = []
        for reader in mixed_readers(150, 61):
            most = reader_places(reader)
            told.append(most)
            longest = 8 if len(reader[0]) == 1 else 6
            many = max(len(places_read(reader, word)) for word in all_words(len(reader[0]), longest))
            if most is None:
                self.assertGreaterEqual(many, 2)
            else:
                self.assertEqual(many, most)
        self.assertTrue(told.count(None) > 20 and told.count(0) > 20 and told.count(1) > 2)

    def test_behind_setters(self):
        for reader in mixed_readers(60, 61):
            plant, late = setters(len(reader[0][0]))
            if len(plant[0]) + len(reader[0]) > 4:
                continue
            both = unless_too_many(read_by, plant, late, reader)
            if both is not None and reader_places(reader) is None:
                self.assertIsNone(marks_needed(*both))

    def test_plain_ones(self):
        self.is_just(places_read(SETS, (0, 0, 0)), (2,))
        self.is_just(reader_places(SETS), 1)
        turns = ((((0, 1), (1, 0)),), (0, 1))
        self.is_just(places_read(turns, (0, 0, 0)), (0, 1, 2))
        self.is_just(reader_places(turns), None)
        # What is read first and next is kept, all else changes nothing.
        twice = ((((1, 3, 4, 3, 4, 5, 6), (2, 5, 6, 3, 4, 5, 6)),), (0, 0, 0, 0, 1, 2, 3))
        self.is_just((places_read(twice, (0,) * 5), reader_places(twice)), ((0, 1), 2))
        self.is_just(places_read(turns, (0,) * 400), tuple(range(400)))
        self.is_just(places_read((((EIGHT[0]),), EIGHT[1]), ()), ())

    def test_errors(self):
        self.refuses(InvalidPlant, -1, places_read, 3, 3)
        for odd in (None, 3, (0,) * 401, "0"):
            self.refuses(InvalidWord, -1, places_read, SETS, odd)
        for odd in (1, -1, True, None):
            self.refuses(InvalidWord, 1, places_read, SETS, (0, odd, odd))
        self.assertIsInstance(places_read(MIXED, (1, 1)), tuple)
        self.refuses(InvalidWord, 1, places_read, MIXED, (1, 2))

    def test_latch(self):
        self.assertEqual(reader_places((((LATCH[0]),), LATCH[1])), 1)
