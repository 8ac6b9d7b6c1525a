"""The maps of all words of a machine, as numbers, and what they make one behind another."""

from forgetwhen.checks import is_below
from forgetwhen.errors import InvalidIndex, InvalidSize, Refused
from forgetwhen.machines import then
from forgetwhen.search import search, word_to


class Monoid:
    """The maps of all words, numbered by the least of their shortest words.

    after[x][k] is the number of map x and, behind it, kind k;
    times[x][y] that of x and, behind it, y.
    """

    def __init__(self, machine, most):
        maps = machine[0]
        same = tuple(range(len(machine[1])))
        kinds = tuple(range(len(maps)))
        nodes, came, _ = search((same,), kinds, lambda one, kind: then(one, maps[kind]), most=most)
        if len(nodes) > most:
            raise InvalidSize("maps")
        self.maps = nodes
        self.numbers = {one: number for number, one in enumerate(nodes)}
        self.words = [word_to(came, number) for number in range(len(nodes))]
        self.after = [[self.numbers[then(one, kind_map)] for kind_map in maps] for one in nodes]
        self.times = [self.products(one, came) for one in range(len(nodes))]

    def products(self, one, came):
        """What a map makes with each map behind it."""
        row = [one]
        # The word of a map is that of an earlier one and a kind more.
        for ahead, kind in came[1:]:
            row.append(self.after[row[ahead]][kind])
        return row

    def size(self):
        return len(self.maps)

    def product(self, *numbers):
        """The number of several maps, one behind another."""
        whole = 0
        for number in numbers:
            whole = self.times[whole][number]
        return whole

    def is_idempotent(self, number):
        return self.times[number][number] == number

    def need_idempotent(self, value):
        """The number of an idempotent map, of any value."""
        if not is_below(value, self.size()):
            raise InvalidIndex(-1)
        if not self.is_idempotent(value):
            raise Refused(-1)
        return value
