"""What the tests share: asking for errors, machines of many forms, words by force."""

import itertools
import unittest

from forgetwhen.errors import InvalidSize, TwinError

VALVE = (((1, 0), (0, 0)), (0, 1))
LATCH = (((1, 1), (0, 0)), (0, 1))
LAST = (((0, 0), (1, 1)), (0, 1))
RING = (((1, 2, 3, 3), (0, 0, 0, 0)), (0, 0, 0, 1))
EIGHT = (
    ((1, 2, 3, 4, 5, 6, 7, 0), (0, 0, 1, 2, 3, 4, 5, 6), (0, 1, 2, 3, 4, 5, 6, 7), (7, 6, 5, 4, 3, 2, 1, 0)),
    (99, 0, 0, 0, 5, 5, 5, 5),
)

# Machines, with late kinds, of which not each news is needed round a ring: (machine, late, growth).
PARTLY = (
    ((((2, 1, 1), (1, 0, 2), (2, 2, 2)), (2, 0, 1)), (2,), (1, 2)),
    ((((1, 1, 1, 1), (3, 1, 1, 2), (3, 0, 3, 3)), (2, 3, 0, 3)), (0,), (1, 3)),
    ((((1, 1, 2, 2), (3, 2, 1, 0), (0, 2, 3, 3)), (0, 1, 2, 3)), (0,), (2, 3)),
)

# Values of which none is a number, a row of numbers, or anything else that is wanted.
ODD_VALUES = (
    None, True, False, -1, 10 ** 9, "", "word", "0", (), [], (None,), [[]], ((),), (True,), (0, True), ((0, 0), True),
    TwinError("any"), InvalidSize("any"), ((), ()), [[], []], (((),), ()), ("word", ()), ("same", ()), ("level", ()),
    ("needed", (), 0, (), ()), ("free", (), ()), ("amid", ()), ("alone", ()), (((((((((((),),),),),),),),),),),
)


class Case(unittest.TestCase):
    """A test that can ask for just one error."""

    def refuses(self, error, told, call, *arguments, **named):
        """The call raises just this error, which keeps just what is told."""
        try:
            result = call(*arguments, **named)
        except TwinError as caught:
            self.assertIs(type(caught), error, f"{caught!r} {vars(caught)}")
            self.assertEqual(list(vars(caught).values()), [told])
            self.assertIs(type(list(vars(caught).values())[0]), type(told))
            return
        self.fail(f"{call.__name__} returned {result!r}, wanted {error.__name__}({told!r})")

    def is_just(self, value, wanted):
        """Equal, where True is not 1."""
        self.assertEqual(value, wanted)
        self.assertEqual(repr(value), repr(wanted))


class Chance:
    """Numbers that look mixed, and are the same in each run."""

    def __init__(self, seed):
        self.state = seed * 2654435761 % 2 ** 64

    def below(self, limit):
        self.state = (self.state * 6364136223846793005 + 1442695040888963407) % 2 ** 64
        return (self.state >> 33) % limit

    def pick(self, values):
        return values[self.below(len(values))]

    def machine(self, states, kinds, shown):
        maps = tuple(tuple(self.below(states) for _ in range(states)) for _ in range(kinds))
        return (maps, tuple(self.below(shown) for _ in range(states)))

    def word(self, kinds, many):
        return tuple(self.below(kinds) for _ in range(many))

    def lot(self, kinds):
        return tuple(kind for kind in range(kinds) if self.below(2))

    def story(self, machine, late, many, moments=1000):
        """A story of at most so many news."""
        story, greatest, heard = [], -1, set()
        for _ in range(many):
            kind = self.below(len(machine[0]))
            moment = self.below(moments) if kind in late else greatest + 1 + self.below(3)
            if moment in heard or moment >= 1000000:
                continue
            heard.add(moment)
            greatest = max(greatest, moment)
            story.append((moment, kind))
        return tuple(story)


def mixed_machines(count, seed, states=4, kinds=3, shown=2):
    """Machines of up to so many states and kinds."""
    chance = Chance(seed)
    return [
        chance.machine(1 + chance.below(states), 1 + chance.below(kinds), 1 + chance.below(shown))
        for _ in range(count)
    ]


def all_words(kinds, longest):
    """All words up to a length, shorter ones first, then ascending."""
    for many in range(longest + 1):
        yield from itertools.product(range(kinds), repeat=many)


def run(machine, state, word):
    for kind in word:
        state = machine[0][kind][state]
    return state


def lots_of(kinds):
    for many in range(kinds + 1):
        yield from itertools.combinations(range(kinds), many)


def as_lists(value):
    """The value with lists for tuples, at any depth."""
    if isinstance(value, tuple):
        return [as_lists(part) for part in value]
    return value


def has_list(value):
    if isinstance(value, list):
        return True
    return isinstance(value, tuple) and any(has_list(part) for part in value)


def changed_papers(value, odd=(None, True, -1, 0, 1, 99, "x", (), [])):
    """The value with one part, at any depth, put to another one, told twice, dropped, or as a list."""
    for new in odd:
        yield new
    if isinstance(value, tuple):
        yield list(value)
        for at, part in enumerate(value):
            yield value[:at] + value[at + 1:]
            yield value[:at] + (part,) + value[at:]
            for new in changed_papers(part, odd):
                yield value[:at] + (new,) + value[at + 1:]
