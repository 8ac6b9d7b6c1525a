"""Promise [12], its first part."""

from forgetwhen.errors import InvalidKind, InvalidMachine, InvalidMoment, InvalidSize
from forgetwhen.machines import word_map
from forgetwhen.timeline import Timeline, least_news
from tests.support import EIGHT, RING, VALVE, Case, Chance, as_lists, mixed_machines

WRONG_MOMENTS = (-1, 1000000, True, False, None, "5", (5,), [])


def told(line):
    """All that a timeline tells."""
    moments = (0, 3, 5, 20, 21, 400, 999999)
    return (
        line.all_news(), line.state_now(), line.depth(), [line.state_by(moment) for moment in moments],
        [line.map_between(one, other) for one in moments for other in moments],
    )


class LeastNewsTest(Case):
    def test_numbers(self):
        self.is_just([least_news(depth) for depth in range(9)], [0, 1, 2, 4, 7, 12, 20, 33, 54])
        for depth in range(2, 401):
            self.is_just(least_news(depth), least_news(depth - 1) + least_news(depth - 2) + 1)
        self.is_just(least_news(depth=400), least_news(400))
        for wrong in (-1, 401, True, None, "1", (1,)):
            self.refuses(InvalidSize, "depth", least_news, wrong)


class TimelineTest(Case):
    def follows(self, machine, news, line, moments):
        """Whatever is asked is as in the plain record."""
        record = sorted(news.items())
        self.is_just(line.all_news(), tuple(record))
        self.is_just(line.state_now(), word_map(machine, [kind for _, kind in record])[0])
        self.assertLessEqual(least_news(line.depth()), len(record))
        self.assertLess(len(record), 2 ** line.depth())
        for one in moments:
            upto = [kind for moment, kind in record if moment <= one]
            self.is_just(line.state_by(one), word_map(machine, upto)[0])
            for other in moments:
                within = [kind for moment, kind in record if one <= moment < other]
                self.is_just(line.map_between(one, other), word_map(machine, within))

    def test_nothing_heard(self):
        for machine in (VALVE, EIGHT, as_lists(RING)):
            line = Timeline(machine)
            self.is_just(line.all_news(), ())
            self.is_just(line.state_now(), 0)
            self.is_just(line.state_by(999999), 0)
            self.is_just(line.map_between(0, 999999), tuple(range(len(machine[1]))))
            self.is_just(line.depth(), 0)

    def test_example(self):
        line = Timeline(VALVE)
        for moment, kind in ((20, 1), (30, 0), (10, 0), (25, 0)):
            self.assertIsNone(line.put_in(moment, kind))
        self.is_just(line.all_news(), ((10, 0), (20, 1), (25, 0), (30, 0)))
        self.is_just((line.state_now(), line.state_by(10), line.state_by(24), line.state_by(25)), (0, 1, 0, 1))
        self.is_just(line.map_between(10, 20), (1, 0))
        self.is_just(line.map_between(10, 21), (0, 0))
        self.is_just(line.map_between(11, 20), (0, 1))
        self.is_just(line.map_between(20, 20), (0, 1))
        self.is_just(line.map_between(30, 10), (0, 1))
        self.assertIsNone(line.strike_out(moment=20))
        self.is_just(line.all_news(), ((10, 0), (25, 0), (30, 0)))
        self.is_just(line.state_now(), 1)

    def test_rising_falling_and_mixed(self):
        chance = Chance(70)
        mixed = sorted(range(400), key=lambda at: at * 7919 % 401)
        for order in (list(range(400)), list(range(399, -1, -1)), mixed):
            for machine in (VALVE, *mixed_machines(2, 71)):
                line, news = Timeline(machine), {}
                for at, moment in enumerate(order):
                    kind = chance.below(len(machine[0]))
                    line.put_in(moment=moment * 3, kind=kind)
                    news[moment * 3] = kind
                    if at % 57 == 0 or at == 399:
                        self.follows(machine, news, line, (0, moment * 3, 601, 999999))
                for at, moment in enumerate(order[1::2] + order[::2]):
                    line.strike_out(moment * 3)
                    del news[moment * 3]
                    if at % 57 == 0 or at > 395:
                        self.follows(machine, news, line, (0, 300, 601, 999999))
                self.is_just(line.all_news(), ())

    def test_in_and_out(self):
        chance = Chance(72)
        for machine in mixed_machines(12, 72):
            line, news = Timeline(machine), {}
            for _ in range(150):
                moment, kind = chance.below(40), chance.below(len(machine[0]))
                if moment in news:
                    line.strike_out(moment)
                    del news[moment]
                else:
                    line.put_in(moment, kind)
                    news[moment] = kind
                self.follows(machine, news, line, [chance.below(42) for _ in range(3)])

    def test_depth_at_each_step(self):
        for step in (1, 7, 399):
            line = Timeline(VALVE)
            for many in range(1, 401):
                line.put_in(many * step % 401, 0)
                self.assertLessEqual(least_news(line.depth()), many)
                self.assertLess(many, 2 ** line.depth())
            for many in range(400, 0, -1):
                line.strike_out(many * step % 401)
                self.assertLessEqual(least_news(line.depth()), many - 1)
                self.assertLess(many - 1, 2 ** line.depth())

    def test_refusals_change_nothing(self):
        line = Timeline(VALVE)
        for moment, kind in ((5, 0), (3, 1), (20, 0)):
            line.put_in(moment, kind)
        before = told(line)
        for wrong in (*WRONG_MOMENTS, 5, 3, 20):
            self.refuses(InvalidMoment, -1, line.put_in, wrong, 0)
            self.refuses(InvalidMoment, -1, line.put_in, wrong, None)
        for wrong in (-1, 2, True, None, "0", (0,)):
            self.refuses(InvalidKind, -1, line.put_in, 4, wrong)
            self.refuses(InvalidMoment, -1, line.put_in, 5, wrong)
        for wrong in (*WRONG_MOMENTS, 4, 0, 999999):
            self.refuses(InvalidMoment, -1, line.strike_out, wrong)
        for wrong in WRONG_MOMENTS:
            self.refuses(InvalidMoment, -1, line.state_by, wrong)
            self.refuses(InvalidMoment, -1, line.map_between, wrong, 5)
            self.refuses(InvalidMoment, -1, line.map_between, 5, wrong)
            self.refuses(InvalidMoment, -1, line.map_between, 9, wrong)
        self.assertEqual(told(line), before)
        line.strike_out(5)
        self.refuses(InvalidMoment, -1, line.strike_out, 5)
        line.put_in(5, 1)
        self.is_just(line.all_news(), ((3, 1), (5, 1), (20, 0)))

    def test_names_of_parameters(self):
        line = Timeline(machine=VALVE)
        line.put_in(kind=0, moment=7)
        self.is_just(line.state_by(moment=7), 1)
        self.is_just(line.map_between(other=8, one=7), (1, 0))

    def test_later_changes_have_no_effect(self):
        machine = as_lists(VALVE)
        line = Timeline(machine)
        machine[0][0][0] = 0
        machine[1].append(3)
        line.put_in(4, 0)
        self.is_just(line.state_now(), 1)

    def test_timelines_are_apart(self):
        one, other = Timeline(VALVE), Timeline(VALVE)
        one.put_in(4, 0)
        self.is_just(other.all_news(), ())

    def test_no_machine(self):
        for wrong in (None, (), VALVE[0], (((0,), (1,)), (0, 1))):
            with self.assertRaises(InvalidMachine):
                Timeline(wrong)
        self.refuses(InvalidMachine, 1, Timeline, (((0, 1), (1, 2)), (0, 1)))

    def test_neither_row_nor_length(self):
        line = Timeline(VALVE)
        with self.assertRaises(TypeError):
            iter(line)
        with self.assertRaises(TypeError):
            len(line)
