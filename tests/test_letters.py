"""Promises [49] and [50]."""

import itertools

from forgetwhen.errors import (
    InvalidIndex, InvalidItems, InvalidKind, InvalidLetter, InvalidMachine, InvalidMoment, InvalidRoom, InvalidSize,
    InvalidStory, InvalidWord, Refused,
)
from forgetwhen.letters import Rooms, join_rows, need_letter, own_row, parting_rooms, whole_reading
from forgetwhen.needed import needed_moments, needed_news
from forgetwhen.stories import need_story, story_readings
from forgetwhen.twins import first_row, record_row, row_form, row_step
from tests.support import (
    LAST, ODD_VALUES, RING, VALVE, Case, Chance, all_words, as_lists, has_list, mixed_machines,
)
from tests.test_twins import NO_ROWS, dropped, needed_by_force

ROW = (((0, 1), (1, 0)), (1,))


def every_kind(machine):
    return tuple(range(len(machine[0])))


def told_form(machine, told):
    return row_form(machine, every_kind(machine), told[0]), told[1]


def joined_by_force(machine, one, other):
    """All marks by their moments, then those that are free dropped."""
    marks = sorted(
        (moment, kind, behind)
        for row, moments in (one, other) for moment, kind, behind in zip(moments, row[1], row[0][1:])
    )
    first = tuple(other[0][0][0][state] for state in one[0][0][0])
    row = ((first, *(mark[2] for mark in marks)), tuple(mark[1] for mark in marks))
    kept = needed_by_force(machine, every_kind(machine), row)
    return dropped(machine, row, kept), tuple(marks[place][0] for place in kept)


def parts_of_news(chance, machine, many, rooms):
    """News of one plant, shared out among rooms, each in some order."""
    parts = [[] for _ in range(rooms)]
    for moment in range(0, 3 * many, 3):
        parts[chance.below(rooms)].append((moment + chance.below(3), chance.below(len(machine[0]))))
    return [tuple(sorted(part, key=lambda news: chance.below(100))) for part in parts]


class RowsTest(Case):
    def test_examples(self):
        self.is_just(own_row(VALVE, ((5, 0), (3, 0))), (((((0, 1), (0, 1), (0, 1)), (0, 0))), (3, 5)))
        self.is_just(own_row(LAST, ((5, 1), (3, 0))), ((((0, 0), (0, 1)), (1,)), (5,)))
        self.is_just(own_row(VALVE, ()), (first_row(VALVE), ()))
        self.is_just(join_rows(LAST, own_row(LAST, ((5, 1),)), own_row(LAST, ((3, 0),))), (
            (((0, 0), (0, 1)), (1,)), (5,),
        ))
        self.is_just(whole_reading(LAST, own_row(LAST, ((5, 1), (3, 0)))), 1)

    def test_own_rows(self):
        chance = Chance(4901)
        for machine in mixed_machines(60, 4901, 4, 3, 3):
            late = every_kind(machine)
            news = chance.story(machine, late, 7, 30)
            row, moments = own_row(machine, news)
            self.is_just(row, record_row(machine, late, [kind for _, kind in sorted(news)]))
            self.is_just(moments, needed_moments(machine, late, news))
            self.is_just(whole_reading(machine, (row, moments)), story_readings(machine, late, news)[-1])

    def test_any_order_and_grouping(self):
        chance = Chance(4902)
        for machine in mixed_machines(40, 4902, 4, 3, 3):
            parts = parts_of_news(chance, machine, 7, 3)
            whole = own_row(machine, sum(parts, ()))
            for one, two, three in itertools.permutations([own_row(machine, part) for part in parts]):
                self.is_just(join_rows(machine, one, two), joined_by_force(machine, one, two))
                left = join_rows(machine, join_rows(machine, one, two), three)
                right = join_rows(machine, one, join_rows(machine, two, three))
                for told in (left, right):
                    self.is_just(told_form(machine, told), told_form(machine, whole))
                    self.is_just(whole_reading(machine, told), whole_reading(machine, whole))
                    self.assertFalse(has_list(told))

    def test_any_rows_put_together(self):
        """Rows with maps of no words, and with free marks."""
        chance = Chance(4903)
        for machine in mixed_machines(60, 4903, 3, 2, 2):
            told = []
            for odd in range(2):
                many, states = chance.below(3), len(machine[1])
                maps = tuple(chance.word(states, states) for _ in range(many + 1))
                told.append(((maps, chance.word(len(machine[0]), many)), tuple(2 * at + odd for at in range(many))))
            self.is_just(join_rows(machine, *told), joined_by_force(machine, *told))

    def test_moments_of_both(self):
        one = ((((0, 1),) * 4, (0, 0, 0)), (3, 5, 8))
        other = ((((0, 1),) * 4, (0, 0, 0)), (4, 5, 8))
        self.refuses(Refused, 5, join_rows, VALVE, one, other)
        self.refuses(Refused, 8, join_rows, VALVE, one, ((((0, 1),) * 2, (1,)), (8,)))
        self.refuses(Refused, 3, join_rows, VALVE, one, one)

    def test_told_rows_that_are_none(self):
        good = (ROW, (4,))
        wrong = [(row, (4,)) for row in NO_ROWS]
        wrong += [(ROW, moments) for moments in (
            (), (4, 5), (-1,), (10 ** 6,), (True,), (None,), "4", 4, {4: 4}, ("4",), ((4,),),
        )]
        wrong += [(ROW,), (ROW, (4,), ()), ROW, *ODD_VALUES]
        two = (((0, 1),) * 3, (1, 1))
        wrong += [(two, (5, 4)), (two, (4, 4)), (two, (4,))]
        for value in wrong:
            self.refuses(InvalidItems, -1, join_rows, VALVE, value, 5)
            self.refuses(InvalidItems, -1, join_rows, VALVE, good, value)
            self.refuses(InvalidItems, -1, whole_reading, VALVE, value)
        self.refuses(InvalidItems, -1, join_rows, VALVE, good, 5)
        self.is_just(join_rows(VALVE, as_lists(good), as_lists((two, (5, 999999)))), join_rows(VALVE, good, (two, (5, 999999))))
        self.is_just(whole_reading(VALVE, as_lists(good)), 1)
        self.refuses(InvalidMachine, -1, join_rows, 5, 5, 5)
        self.refuses(InvalidStory, 1, own_row, VALVE, ((3, 0), (3, 0)))
        self.refuses(InvalidStory, -1, own_row, VALVE, None)


class PartingRoomsTest(Case):
    def test_both_rows_tried_out(self):
        told = {"free": 0, "needed": 0}
        for machine in mixed_machines(40, 4904, 4, 2, 2):
            late = every_kind(machine)
            for word in all_words(len(late), 4):
                needed = needed_news(machine, late, word)
                for place in range(len(word)):
                    found = parting_rooms(machine, word, place)
                    if place not in needed:
                        told["free"] += 1
                        self.assertIs(found, None)
                        continue
                    told["needed"] += 1
                    self.parts(machine, word, place, found)
        self.assertGreater(min(told.values()), 50)

    def parts(self, machine, word, place, found):
        self.assertFalse(has_list(found))
        news, one, other = found
        late = every_kind(machine)
        self.is_just(tuple(kind for _, kind in news), word)
        self.is_just(tuple(sorted(news)), news)
        self.is_just([kind for _, kind in one], [kind for _, kind in other])
        order = [sorted(range(len(row)), key=lambda at: row[at][0]) for row in (one, other)]
        self.is_just(*order)
        forgotten = news[place][0]
        for (moment, _), (like, _) in zip(one, other):
            below = [[mark for mark, _ in news if mark < told and mark != forgotten] for told in (moment, like)]
            self.is_just(*below)
        ends = []
        for row in (one, other):
            need_story(machine, late, (*news, *row))
            ends.append(story_readings(machine, late, (*news, *row))[-1])
        self.assertNotEqual(*ends)

    def test_long_tails(self):
        """Turns of a ring, told apart only by further ones."""
        for word in ((0,), (1, 0), (1, 0, 0), (0, 1, 0)):
            for place in range(len(word)):
                found = parting_rooms(RING, word, place)
                self.assertIs(found is None, place not in needed_news(RING, (0, 1), word))
                if found is not None:
                    self.parts(RING, word, place, found)

    def test_rooms_hear_them(self):
        """Who has not kept the mark sees both rows alike."""
        news, one, other = parting_rooms(VALVE, (0, 1, 0), 2)
        row, moments = own_row(VALVE, news)
        self.assertIn(news[2][0], moments)
        shown = [whole_reading(VALVE, join_rows(VALVE, (row, moments), own_row(VALVE, told))) for told in (one, other)]
        self.assertNotEqual(*shown)

    def test_wrong_places(self):
        for place in (2, -1, True, None, "0", (0,)):
            self.refuses(InvalidIndex, -1, parting_rooms, VALVE, (0, 1), place)
        self.refuses(InvalidIndex, -1, parting_rooms, VALVE, (), 0)
        self.refuses(InvalidWord, 1, parting_rooms, VALVE, (0, 2), 5)
        self.refuses(InvalidWord, -1, parting_rooms, VALVE, (0,) * 401, 5)
        self.refuses(InvalidMachine, -1, parting_rooms, 5, 5, 5)


class RoomsTest(Case):
    def test_example(self):
        rooms = Rooms(VALVE, 2)
        nothing = (0, first_row(VALVE), ())
        self.is_just(rooms.letter(0), (nothing, nothing))
        self.assertIs(rooms.hear(0, 20, 1), None)
        rooms.hear(1, 30, 0)
        self.is_just([rooms.shown(room) for room in range(2)], [0, 1])
        self.assertIs(rooms.take(1, rooms.letter(0)), None)
        self.is_just((rooms.known(0), rooms.known(1), rooms.shown(1)), ((1, 0), (1, 1), 1))
        rooms.hear(1, 25, 0)
        self.is_just((rooms.shown(1), rooms.joined_row(1)[1]), (0, (20, 25, 30)))
        self.is_just(rooms.letter(1)[0], (1,) + own_row(VALVE, ((20, 1),)))

    def test_letters_lost_doubled_and_late(self):
        """A room shows what is right for the first news of each room that it knows of."""
        chance = Chance(5001)
        for machine in mixed_machines(50, 5001, 4, 3, 3):
            late, many = every_kind(machine), 1 + chance.below(4)
            parts = parts_of_news(chance, machine, 12, many)
            rooms, heard, letters = Rooms(as_lists(machine), many), [()] * many, []
            for _ in range(40):
                room = chance.below(many)
                deed = chance.below(3)
                if deed == 0 and len(heard[room]) < len(parts[room]):
                    news = parts[room][len(heard[room])]
                    rooms.hear(room, *news)
                    heard[room] += (news,)
                elif deed == 1:
                    letters.append(rooms.letter(room))
                elif letters:
                    letter = chance.pick(letters)
                    ahead = rooms.known(room)
                    rooms.take(room, as_lists(letter) if chance.below(2) else letter)
                    self.is_just(rooms.known(room), tuple(max(pair) for pair in zip(ahead, [told[0] for told in letter])))
                self.looks_right(machine, rooms, heard, room)
            for room in range(many):
                self.looks_right(machine, rooms, heard, room)

    def looks_right(self, machine, rooms, heard, room):
        late = every_kind(machine)
        known = rooms.known(room)
        self.assertEqual(known[room], len(heard[room]))
        news = sum((heard[other][:number] for other, number in enumerate(known)), ())
        self.is_just(rooms.shown(room), story_readings(machine, late, news)[-1])
        self.is_just(told_form(machine, rooms.joined_row(room)), told_form(machine, own_row(machine, news)))
        letter = rooms.letter(room)
        self.is_just(need_letter(machine, len(known), letter), letter)
        for other, (number, row, moments) in enumerate(letter):
            told = own_row(machine, heard[other][:number])
            self.is_just((number, told_form(machine, (row, moments))), (known[other], told_form(machine, told)))
        whole = (first_row(machine), ())
        for _, row, moments in letter:
            whole = join_rows(machine, whole, (row, moments))
        self.is_just(rooms.joined_row(room), whole)

    def test_numbers_alike_and_greater(self):
        rooms = Rooms(VALVE, 2)
        rooms.hear(0, 20, 1)
        own = rooms.letter(0)[0]
        for number in (0, 1):
            rooms.take(0, ((number, ROW, (3,)), (0, ROW, (5,))))
            self.is_just(rooms.letter(0), (own, (0, first_row(VALVE), ())))
        rooms.take(0, [[0, [[[0, 1]], []], []], [1, ROW, [5]]])
        self.is_just(rooms.letter(0), (own, (1, ROW, (5,))))
        rooms.take(0, ((0, ROW, (5,)), (1, first_row(VALVE), ())))
        self.is_just(rooms.letter(0)[1], (1, ROW, (5,)))
        rooms.take(0, ((2, ROW, (3,)), (7, first_row(VALVE), ())))
        self.is_just(rooms.letter(0), ((2, ROW, (3,)), (7, first_row(VALVE), ())))
        # It goes on from what it took.
        row, _ = row_step(VALVE, (0, 1), ROW, 1, 0)
        rooms.hear(0, 9, 0)
        self.is_just(rooms.letter(0)[0], (3, row, (3, 9)))

    def test_moments_that_two_have_heard(self):
        rooms = Rooms(VALVE, 3)
        for moment in (20, 10, 30):
            rooms.hear(0, moment, 0)
            rooms.hear(2, moment + 5 * (moment == 10), 0)
        rooms.take(1, rooms.letter(0))
        rooms.take(1, rooms.letter(2))
        self.refuses(Refused, 20, rooms.joined_row, 1)
        self.refuses(Refused, 20, rooms.shown, 1)
        self.is_just(rooms.known(1), (3, 0, 3))
        self.is_just(rooms.shown(0), 1)

    def test_order_of_errors(self):
        rooms = Rooms(VALVE, 2)
        rooms.hear(0, 20, 0)
        kept = [rooms.letter(room) for room in range(2)]
        for room in (2, -1, True, None, "0", (0,)):
            self.refuses(InvalidRoom, -1, rooms.hear, room, -1, 9)
            self.refuses(InvalidRoom, -1, rooms.take, room, 5)
            for call in (rooms.letter, rooms.known, rooms.joined_row, rooms.shown):
                self.refuses(InvalidRoom, -1, call, room)
        for moment in (-1, 10 ** 6, True, None, "5", (5,)):
            self.refuses(InvalidMoment, -1, rooms.hear, 0, moment, 9)
        for kind in (2, -1, True, None, "0", (0,)):
            self.refuses(InvalidKind, -1, rooms.hear, 0, 20, kind)
        self.refuses(InvalidMoment, -1, rooms.hear, 0, 20, 1)
        self.is_just([rooms.letter(room) for room in range(2)], kept)
        rooms.hear(room=1, moment=20, kind=1)
        self.is_just(rooms.known(1), (0, 1))

    def test_letters_that_are_none(self):
        nothing = (0, first_row(VALVE), ())
        self.is_just(need_letter(VALVE, 2, as_lists((nothing, (10 ** 20, ROW, (999999,))))), (
            nothing, (10 ** 20, ROW, (999999,)),
        ))
        rooms = Rooms(VALVE, 2)
        rooms.hear(0, 20, 1)
        kept = rooms.letter(0)
        triples = [(-1, ROW, (4,)), (True, ROW, (4,)), ("1", ROW, (4,)), (None, ROW, (4,)), (1, ROW), (1, ROW, (4,), 5)]
        triples += [(1, row, (4,)) for row in NO_ROWS]
        triples += [(1, ROW, moments) for moments in ((), (4, 5), (-1,), (10 ** 6,), (True,), "4", None)]
        triples += [(1, (((0, 1),) * 3, (0, 0)), moments) for moments in ((5, 4), (4, 4))]
        for triple in (*triples, *ODD_VALUES):
            self.refuses(InvalidLetter, 0, need_letter, VALVE, 2, (triple, 5))
            self.refuses(InvalidLetter, 1, need_letter, VALVE, 2, [nothing, triple])
            self.refuses(InvalidLetter, 1, rooms.take, 0, ((5, ROW, (4,)), triple))
        for value in ((), (nothing,), (nothing,) * 3, *ODD_VALUES):
            if isinstance(value, (list, tuple)) and len(value) == 2:
                self.refuses(InvalidLetter, 0, need_letter, VALVE, 2, value)
                continue
            self.refuses(InvalidLetter, -1, need_letter, VALVE, 2, value)
            self.refuses(InvalidLetter, -1, rooms.take, 0, value)
        self.is_just(rooms.letter(0), kept)

    def test_sizes(self):
        for many in (0, 7, -1, True, None, "2", (2,)):
            self.refuses(InvalidSize, "rooms", Rooms, VALVE, many)
            self.refuses(InvalidSize, "rooms", need_letter, VALVE, many, 5)
        self.refuses(InvalidMachine, -1, Rooms, 5, 5)
        self.refuses(InvalidMachine, -1, need_letter, 5, 5, 5)
        self.is_just(Rooms(machine=RING, many=6).known(5), (0,) * 6)
        with self.assertRaises(TypeError):
            len(Rooms(VALVE, 1))

    def test_letters_are_no_longer_than_needed(self):
        """With marks for a level machine, a letter has at most that many for each room."""
        rooms = Rooms(LAST, 3)
        for moment in range(24):
            rooms.hear(moment % 3, moment * 7 % 24, moment % 2)
        for room in range(3):
            rooms.take((room + 1) % 3, rooms.letter(room))
        self.is_just([len(moments) for _, _, moments in rooms.letter(0)], [1, 1, 1])
        self.is_just(len(rooms.joined_row(0)[1]), 1)
