"""A timeline: all news in a tree by moments, put in and struck out in any order."""

from forgetwhen.checks import is_below
from forgetwhen.errors import InvalidMoment, InvalidSize
from forgetwhen.machines import need_kind, need_machine
from forgetwhen.stories import need_moment
from forgetwhen.tree import Tree

MOST_DEPTH = 400


def least_news(depth):
    """How many news a balanced tree of a depth has at least."""
    if not is_below(depth, MOST_DEPTH + 1):
        raise InvalidSize("depth")
    many, deeper = 0, 1
    for _ in range(depth):
        many, deeper = deeper, many + deeper + 1
    return many


class Timeline:
    """News of any kinds at unlike moments, at first none."""

    def __init__(self, machine):
        self._machine = need_machine(machine)
        self._tree = Tree(self._machine)
        self._root = None

    def put_in(self, moment, kind):
        """News more."""
        moment = need_moment(moment)
        if self._tree.is_there(self._root, moment):
            raise InvalidMoment(-1)
        kind = need_kind(self._machine, kind)
        self._root = self._tree.with_news(self._root, (moment, kind))

    def strike_out(self, moment):
        """The news of a moment go."""
        moment = need_moment(moment)
        if not self._tree.is_there(self._root, moment):
            raise InvalidMoment(-1)
        self._root = self._tree.without(self._root, moment)

    def state_now(self):
        """Where all news lead."""
        return self._tree.whole_of(self._root)[0]

    def state_by(self, moment):
        """Where the news up to a moment lead, this one too."""
        return self._tree.map_within(self._root, None, need_moment(moment) + 1)[0]

    def map_between(self, one, other):
        """The map of the news from a moment on, below another one."""
        one = need_moment(one)
        return self._tree.map_within(self._root, one, need_moment(other))

    def all_news(self):
        """All news, by moments."""
        return tuple(self._tree.news_of(self._root))

    def depth(self):
        """How deep the tree is."""
        return self._tree.deep_of(self._root)
