"""News in a tree by moments, in which the two parts below each news are of depths that differ by at most one."""

from forgetwhen.machines import then


class Branch:
    """News and what lies below and above them; branches never change, and None stands for no news."""

    def __init__(self, news, left, right, deep, whole):
        self.news = news
        self.left = left
        self.right = right
        self.deep = deep
        self.whole = whole


class Tree:
    """How branches are made for the maps of a machine's kinds."""

    def __init__(self, machine):
        self.maps = machine[0]
        self.same = tuple(range(len(machine[1])))

    def deep_of(self, branch):
        return 0 if branch is None else branch.deep

    def whole_of(self, branch):
        """The map of all news of a branch."""
        return self.same if branch is None else branch.whole

    def between(self, left, news, right):
        """A branch of parts of which none is deeper by more than one."""
        whole = then(then(self.whole_of(left), self.maps[news[1]]), self.whole_of(right))
        deep = 1 + max(self.deep_of(left), self.deep_of(right))
        return Branch(news, left, right, deep, whole)

    def balanced(self, left, news, right):
        """A branch of parts of which one may be deeper by two."""
        if self.deep_of(left) > self.deep_of(right) + 1:
            if self.deep_of(left.left) >= self.deep_of(left.right):
                return self.between(left.left, left.news, self.between(left.right, news, right))
            middle = left.right
            one = self.between(left.left, left.news, middle.left)
            return self.between(one, middle.news, self.between(middle.right, news, right))
        if self.deep_of(right) > self.deep_of(left) + 1:
            if self.deep_of(right.right) >= self.deep_of(right.left):
                return self.between(self.between(left, news, right.left), right.news, right.right)
            middle = right.left
            one = self.between(left, news, middle.left)
            return self.between(one, middle.news, self.between(middle.right, right.news, right.right))
        return self.between(left, news, right)

    def with_news(self, branch, news):
        """The branch with news of a moment more that is not there."""
        if branch is None:
            return self.between(None, news, None)
        if news[0] < branch.news[0]:
            return self.balanced(self.with_news(branch.left, news), branch.news, branch.right)
        return self.balanced(branch.left, branch.news, self.with_news(branch.right, news))

    def first_news(self, branch):
        while branch.left is not None:
            branch = branch.left
        return branch.news

    def without(self, branch, moment):
        """The branch without the news of a moment that is there."""
        if moment < branch.news[0]:
            return self.balanced(self.without(branch.left, moment), branch.news, branch.right)
        if moment > branch.news[0]:
            return self.balanced(branch.left, branch.news, self.without(branch.right, moment))
        if branch.right is None:
            return branch.left
        first = self.first_news(branch.right)
        return self.balanced(branch.left, first, self.without(branch.right, first[0]))

    def is_there(self, branch, moment):
        while branch is not None:
            if moment == branch.news[0]:
                return True
            branch = branch.left if moment < branch.news[0] else branch.right
        return False

    def map_within(self, branch, least, limit):
        """The map of the news from a moment on, below another one; None for either: all on that side."""
        if branch is None or (least is None and limit is None):
            return self.whole_of(branch)
        moment, kind = branch.news
        if least is not None and moment < least:
            return self.map_within(branch.right, least, limit)
        if limit is not None and moment >= limit:
            return self.map_within(branch.left, least, limit)
        below = self.map_within(branch.left, least, None)
        above = self.map_within(branch.right, None, limit)
        return then(then(below, self.maps[kind]), above)

    def news_of(self, branch):
        """All news of a branch, by moments."""
        if branch is None:
            return []
        return [*self.news_of(branch.left), branch.news, *self.news_of(branch.right)]
