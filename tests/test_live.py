"""Promise [56]: a room by hand, deeds taken back, done again, thought otherwise."""

from forgetwhen.errors import InvalidDeed, InvalidIndex, InvalidLate, InvalidLot, InvalidMachine, InvalidMoment, Refused
from forgetwhen.live import Live
from forgetwhen.room import Room
from forgetwhen.withdrawn import need_withdrawn, withdrawn_marks
from tests.support import LAST, ODD_VALUES, VALVE, Case, Chance, as_lists, run
from tests.test_withdrawn import DOUBLE, SPUN, fitting, mixed_deeds, standing_by_force, turned_machines


def is_story(machine, late, gone, story):
    try:
        need_withdrawn(machine, late, gone, story)
    except Exception:
        return False
    return True


def reading_of(machine, news):
    return machine[1][run(machine, 0, [kind for _, kind in sorted(news)])]


def shown_by_force(machine, story):
    return reading_of(machine, standing_by_force(story))


def any_deed(chance, machine, story, moments=30):
    """A deed that may fit, or not."""
    if story and chance.below(2):
        moment, kind, _ = chance.pick(story)
        return (moment, kind, 1) if chance.below(4) else (moment, chance.below(len(machine[0])), chance.below(2))
    return (chance.below(moments), chance.below(len(machine[0])), int(chance.below(6) == 0))


class LiveTest(Case):
    def is_right(self, live, machine, late, gone, deeds):
        self.is_just(live.deeds, tuple(deeds))
        self.is_just(live.room.shown(), shown_by_force(machine, deeds))
        self.is_just(live.standing(), standing_by_force(deeds))
        room = Room(machine, late, gone)
        for deed in deeds:
            room.take(deed)
        self.is_just((live.room.kept(), live.room.last), (room.kept(), room.last))
        most = withdrawn_marks(machine, late, gone)
        if most is not None:
            self.assertLessEqual(len(room.kept()), most)

    def test_scripts(self):
        chance = Chance(56)
        for machine, late, gone in fitting(chance, turned_machines(80, 57)):
            live = Live(machine, list(late), gone[::-1])
            deeds, undone = [], []
            for _ in range(30):
                way = chance.below(8)
                if way < 5:
                    deed = any_deed(chance, machine, deeds)
                    if is_story(machine, late, gone, [*deeds, deed]):
                        deeds.append(deed)
                        undone = []
                        shown, many = live.do_deed(list(deed))
                        self.is_just((shown, many), (shown_by_force(machine, deeds), len(live.room.kept())))
                    else:
                        self.refuses(InvalidDeed, -1, live.do_deed, deed)
                elif way < 7:
                    self.is_just(live.undo_deed(), len(deeds) > 0)
                    if deeds:
                        undone.append(deeds.pop())
                else:
                    self.is_just(live.redo_deed(), len(undone) > 0)
                    if undone:
                        deeds.append(undone.pop())
                self.is_right(live, machine, late, gone, deeds)

    def test_what_was_shown(self):
        chance = Chance(58)
        for machine, late, gone in fitting(chance, turned_machines(60, 59)):
            live = Live(machine, late, gone)
            story = mixed_deeds(chance, machine, late, gone, 14)
            for deed in story:
                live.do_deed(deed)
            for many in range(len(story) + 1):
                self.is_just(live.shown_then(many), shown_by_force(machine, story[:many]))
            stands = standing_by_force(story)
            for moment in [0, 999999, *range(65)]:
                self.is_just(live.shown_at(moment), reading_of(machine, [news for news in stands if news[0] <= moment]))
            for number in range(len(story)):
                for deed in [any_deed(chance, machine, story) for _ in range(3)] + [None, 3, story[number], (5, True, 0)]:
                    thought = [*story[:number], deed, *story[number + 1:]]
                    many = number
                    while many < len(thought) and is_story(machine, late, gone, thought[:many + 1]):
                        many += 1
                    self.is_just(live.shown_if(number, deed), (many, shown_by_force(machine, tuple(thought[:many]))))
            self.is_right(live, machine, late, gone, story)

    def test_taken_back_and_done_again(self):
        live = Live(VALVE, (0,), (0,))
        self.is_just((live.undo_deed(), live.redo_deed(), live.deeds), (False, False, ()))
        live.do_deed((10, 0, 0))
        live.do_deed((20, 1, 0))
        self.is_just((live.undo_deed(), live.undo_deed(), live.undo_deed()), (True, True, False))
        self.is_just((live.redo_deed(), live.deeds), (True, ((10, 0, 0),)))
        # A refused deed, and asking, don't change what can be done again.
        self.refuses(InvalidDeed, -1, live.do_deed, (10, 0, 0))
        live.shown_if(0, (7, 0, 0)), live.shown_then(1), live.shown_at(5), live.standing()
        self.is_just((live.redo_deed(), live.deeds), (True, ((10, 0, 0), (20, 1, 0))))
        live.undo_deed()
        self.is_just(live.do_deed((15, 0, 0)), (0, 0))
        self.is_just((live.redo_deed(), live.deeds), (False, ((10, 0, 0), (15, 0, 0))))
        # A moment whose news were taken back is free again.
        live.undo_deed()
        self.is_just(live.do_deed((15, 1, 0)), (0, 1))
        self.is_just((live.room.last, live.undo_deed(), live.room.last), (15, True, 10))

    def test_any_values(self):
        live = Live(VALVE, (0,), (0,))
        live.do_deed((10, 0, 0))
        live.undo_deed()
        live.do_deed((12, 0, 0))
        live.do_deed((20, 1, 0))
        live.undo_deed()
        told = (live.deeds, live.room.shown(), live.room.kept())
        for odd in (*ODD_VALUES, (30, 0), (30, 0, 2), (30, 0, True), (30, True, 0), (30, 2, 0), (10 ** 6, 0, 0)):
            self.refuses(InvalidDeed, -1, live.do_deed, odd)
            self.is_just(live.shown_if(0, odd), (0, 0))
        for odd in (-1, 2, True, False, None, "0", (0,)):
            self.refuses(InvalidIndex, -1, live.shown_then, odd)
            self.refuses(InvalidIndex, -1, live.shown_if, odd, 3)
        self.refuses(InvalidIndex, -1, live.shown_if, 1, (5, 0, 0))
        for odd in (-1, 10 ** 6, True, None, "0", (0,)):
            self.refuses(InvalidMoment, -1, live.shown_at, odd)
        self.is_just((live.deeds, live.room.shown(), live.room.kept()), told)
        self.is_just(live.redo_deed(), True)
        self.is_just((live.shown_if(number=0, deed=[5, 0, 0]), live.shown_then(number=2), live.shown_at(moment=12)), ((2, 0), 0, 1))

    def test_two_thousand_deeds(self):
        live = Live((((0,),), (7,)), (), (0,))
        for moment in range(1000):
            live.do_deed((moment, 0, 0))
            live.do_deed((moment, 0, 1))
        self.refuses(InvalidDeed, -1, live.do_deed, (1000, 0, 0))
        self.assertEqual((len(live.deeds), live.standing()), (2000, ()))
        self.is_just(live.shown_if(1999, (999, 0, 1)), (2000, 7))

    def test_errors_of_arguments(self):
        self.refuses(InvalidMachine, -1, Live, 3, 3, 3)
        self.refuses(InvalidLate, -1, Live, VALVE, 3, 3)
        self.refuses(InvalidLot, 1, Live, VALVE, (0,), (0, 0))
        self.refuses(Refused, 1, Live, VALVE, (0,), (1, 0))
        self.refuses(Refused, 0, Live, LAST, (), (1, 0))
        live = Live(machine=as_lists(DOUBLE), late=[], gone=[0])
        self.is_just((type(live.room), live.room.machine, live.deeds), (Room, DOUBLE, ()))

    def test_lists_that_were_handed_in(self):
        machine, late, deed = as_lists(VALVE), [0], [10, 0, 0]
        live = Live(machine, late, late)
        live.do_deed(deed)
        self.is_just((machine, late, deed), (as_lists(VALVE), [0], [10, 0, 0]))
        machine[0][0][0], deed[0] = 0, 99
        late.append(1)
        self.is_just((live.deeds, live.room.machine, live.room.late, live.room.gone), (((10, 0, 0),), VALVE, (0,), (0,)))
        self.is_just((live.undo_deed(), live.redo_deed(), live.room.shown()), (True, True, 1))

    def test_side_by_side(self):
        one, other = Live(SPUN, (0,), (1,)), Live(SPUN, (0,), (1,))
        one.do_deed((5, 0, 0))
        self.is_just((one.deeds, other.deeds, other.room.shown()), (((5, 0, 0),), (), 0))
