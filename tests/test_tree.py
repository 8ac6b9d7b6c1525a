"""The tree of a timeline: its order, its depths, and the maps that its branches keep."""

from forgetwhen.machines import word_map
from forgetwhen.tree import Tree
from tests.support import RING, Case, Chance


class TreeTest(Case):
    def news_below(self, branch):
        """All news of a branch, whose parts are looked at on the way."""
        if branch is None:
            return []
        left, right = self.news_below(branch.left), self.news_below(branch.right)
        depths = [0 if part is None else part.deep for part in (branch.left, branch.right)]
        self.assertLessEqual(abs(depths[0] - depths[1]), 1)
        self.assertEqual(branch.deep, 1 + max(depths))
        news = [*left, branch.news, *right]
        self.assertEqual(branch.whole, word_map(RING, [kind for _, kind in news]))
        return news

    def test_in_and_out(self):
        chance = Chance(75)
        for moments in (12, 40, 120):
            tree, branch, news = Tree(RING), None, {}
            for _ in range(700):
                moment, kind = chance.below(moments), chance.below(2)
                self.assertEqual(tree.is_there(branch, moment), moment in news)
                if moment in news:
                    branch = tree.without(branch, moment)
                    del news[moment]
                else:
                    branch = tree.with_news(branch, (moment, kind))
                    news[moment] = kind
                self.assertEqual(self.news_below(branch), sorted(news.items()))

    def test_branches_never_change(self):
        tree, branch, kept = Tree(RING), None, []
        for moment in range(30):
            kept.append((branch, tree.news_of(branch), tree.deep_of(branch)))
            branch = tree.with_news(branch, (moment * 7 % 30, moment % 2))
        for moment in range(30):
            kept.append((branch, tree.news_of(branch), tree.deep_of(branch)))
            branch = tree.without(branch, moment * 11 % 30)
        for branch, news, deep in kept:
            self.assertEqual(tree.news_of(branch), news)
            self.assertEqual(tree.deep_of(branch), deep)
            self.assertEqual(self.news_below(branch), news)
