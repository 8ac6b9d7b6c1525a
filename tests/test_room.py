"""Promises [53] and [54]: a room, what it keeps, and what it would show if late news came."""

from forgetwhen.errors import InvalidDeed, InvalidKind, InvalidLate, InvalidLot, InvalidMachine, InvalidReadings, Refused
from forgetwhen.needed import needed_news, word_sets
from forgetwhen.room import Room
from forgetwhen.withdrawn import WithdrawnTwin, withdrawn_marks
from tests.support import LAST, ODD_VALUES, VALVE, Case, Chance, as_lists, run
from tests.test_withdrawn import DOUBLE, SPUN, both_lots, fitting, mixed_deeds, standing_by_force, turned_machines


def reading_of(machine, news):
    return machine[1][run(machine, 0, [kind for _, kind in sorted(news)])]


def mixed_rooms(count, seed, deeds):
    """(machine, late, gone, story) such that what is gone can be undone."""
    chance = Chance(seed)
    for machine, late, gone in fitting(chance, turned_machines(count, seed + 1)):
        yield machine, late, gone, mixed_deeds(chance, machine, late, gone, deeds)


class TakeTest(Case):
    def test_stories(self):
        for machine, late, gone, story in mixed_rooms(150, 53, 20):
            both = both_lots(late, gone)
            room = Room(machine, list(late), gone[::-1])
            self.is_just((room.machine, room.late, room.gone, room.last), (machine, late, gone, -1))
            self.is_just((room.shown(), room.kept()), (machine[1][0], ()))
            most = withdrawn_marks(machine, late, gone)
            for many, deed in enumerate(story, 1):
                stands = standing_by_force(story[:many])
                right = reading_of(machine, stands)
                self.is_just(room.take(deed if many % 2 else list(deed)), right)
                self.is_just(room.shown(), right)
                needed = needed_news(machine, both, tuple(kind for _, kind in stands))
                self.is_just(room.kept(), tuple(stands[place] for place in needed))
                self.is_just(room.last, max(moment for moment, _, done in story[:many] if done == 0))
                if most is not None:
                    self.assertLessEqual(len(room.kept()), most)

    def test_attributes(self):
        room = Room(as_lists(SPUN), [1, 0], [1])
        self.assertEqual(sorted(vars(room)), ["gone", "last", "late", "machine", "twin"])
        self.assertIs(type(room.twin), WithdrawnTwin)
        self.is_just((room.machine, room.late, room.gone), (SPUN, (0, 1), (1,)))
        room.take((30, 0, 0))
        room.take((10, 0, 0))
        self.is_just((room.last, room.twin.marks()), (30, tuple(moment for moment, _ in room.kept())))

    def test_no_deeds(self):
        room = Room(VALVE, (0,), (0,))
        for deed in ((10, 0, 0), (20, 1, 0), (30, 0, 0)):
            room.take(deed)
        told = (room.shown(), room.kept(), room.last)
        self.is_just(told, (1, ((20, 1),), 30))
        for odd in (
            None, 3, "abc", (), (40, 0), (40, 0, 0, 0), (40, 0, 2), (40, 0, True), (40, 0, False), (40, True, 0),
            (True, 0, 0), (10 ** 6, 0, 0), (-1, 0, 0), (40, 2, 0), (40, None, 0), ([], 0, 0), (40, [0], 0), (40, 0, -1),
            # A mark; a prompt kind at the last moment, or below it.
            (20, 0, 0), (20, 1, 0), (30, 1, 0), (25, 1, 0), (0, 1, 0),
            # Of no kind that may be withdrawn, above the last moment, a mark of another kind.
            (20, 1, 1), (25, 1, 1), (31, 0, 1), (999999, 0, 1), (20, 0, 1), (10 ** 6, 0, 1), (25, 2, 1),
        ):
            self.refuses(InvalidDeed, -1, room.take, odd)
        for odd in ODD_VALUES:
            self.refuses(InvalidDeed, -1, room.take, odd)
        self.is_just((room.shown(), room.kept(), room.last), told)
        # What it can't see to be wrong is let.
        for deed in ((10, 0, 0), (30, 0, 0), (30, 0, 1), (31, 1, 0)):
            self.assertIn(room.take(deed=deed), (0, 1))
        self.is_just((room.kept(), room.last), (((31, 1),), 31))

    def test_nothing_can_be_withdrawn_at_first(self):
        room = Room(VALVE, (0, 1), (0,))
        for moment in (0, 5, 999999):
            self.refuses(InvalidDeed, -1, room.take, (moment, 0, 1))
        self.is_just(room.take([0, 0, 0]), 1)
        self.is_just((room.last, room.take([0, 0, 1]), room.last), (0, 0, 0))

    def test_errors_of_arguments(self):
        self.refuses(InvalidMachine, -1, Room, 3, 3, 3)
        self.refuses(InvalidLate, -1, Room, VALVE, 3, 3)
        self.refuses(InvalidLot, 1, Room, VALVE, (0,), (0, 0))
        self.refuses(Refused, 1, Room, VALVE, (0,), (1, 0))
        self.refuses(Refused, 0, Room, LAST, (), (1, 0))
        self.is_just(Room(machine=DOUBLE, late=(), gone=(0,)).shown(), 0)


class IfLateTest(Case):
    def test_news_really_put_in(self):
        for machine, late, gone, story in mixed_rooms(120, 55, 12):
            room = Room(machine, late, gone)
            for deed in story:
                # Moments between those of the story, so that there is room for news around each.
                room.take((3 * deed[0] + 1, deed[1], deed[2]))
            stands = [(3 * moment + 1, kind) for moment, kind in standing_by_force(story)]
            heard = [3 * moment + 1 for moment, _, done in story if done == 0]
            free = sorted({0, 999999} | {moment + by for moment in heard for by in (-1, 1)})
            marks = [moment for moment, _ in room.kept()]
            alarms = {}
            for kind in range(len(machine[0])):
                if kind not in late:
                    self.refuses(InvalidKind, -1, room.if_late, kind)
                    continue
                told = room.if_late(kind)
                self.assertEqual(len(told), len(marks) + 1)
                places = set()
                for moment in free:
                    place = len([mark for mark in marks if mark < moment])
                    places.add(place)
                    self.is_just(told[place], reading_of(machine, [*stands, (moment, kind)]))
                self.assertEqual(len(places), len(told))
                for place, shown in enumerate(told):
                    alarms.setdefault(shown, []).append((kind, place))
            for reading in range(100):
                self.is_just(room.alarms(reading), tuple(sorted(alarms.get(reading, []))))

    def test_may_show(self):
        sure = 0
        for machine, late, gone, story in mixed_rooms(200, 57, 12):
            room = Room(machine, late, gone)
            for many in range(len(story) + 1):
                word = [kind for _, kind in standing_by_force(story[:many])]
                states = word_sets(machine, late, word)[-1]
                self.is_just(room.may_show(), tuple(sorted({machine[1][state] for state in states})))
                sure += room.may_show() == (room.shown(),)
                if many < len(story):
                    room.take(story[many])
        self.assertGreater(sure, 100)

    def test_plain_ones(self):
        room = Room(VALVE, (0,), (0,))
        for deed in ((10, 0, 0), (20, 1, 0), (30, 0, 0)):
            room.take(deed)
        self.is_just((room.if_late(0), room.may_show()), ((1, 0), (0, 1)))
        self.is_just([room.alarms(reading) for reading in (0, 1, 2, 99)], [((0, 1),), ((0, 0),), (), ()])
        self.is_just((Room(VALVE, (), (0,)).may_show(), Room(VALVE, (), (0,)).alarms(0)), ((0,), ()))

    def test_kinds_and_readings(self):
        room = Room(VALVE, (0, 1), (0,))
        for kind in (2, -1, True, False, None, "1", (1,), []):
            self.refuses(InvalidKind, -1, room.if_late, kind)
        # What may be withdrawn is not late for that.
        self.refuses(InvalidKind, -1, Room(VALVE, (1,), (0,)).if_late, 0)
        for reading in (100, -1, True, False, None, "1", (1,), []):
            self.refuses(InvalidReadings, -1, room.alarms, reading)
        self.is_just(room.alarms(reading=1), ((0, 0),))
        self.is_just(room.if_late(kind=1), (0,))

    def test_nothing_is_changed(self):
        room = Room(SPUN, (0, 1), (0,))
        for deed in ((10, 0, 0), (20, 1, 0)):
            room.take(deed)
        told = (room.shown(), room.kept(), room.last, room.twin.row())
        room.if_late(0), room.alarms(1), room.may_show()
        self.is_just((room.shown(), room.kept(), room.last, room.twin.row()), told)
