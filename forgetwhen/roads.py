"""Roads between numbered nodes, some of them needed: the most needed steps of ways, heights, and rings."""

from math import gcd

from forgetwhen.search import search, word_to

# What stands for a number of needed steps where there is no way.
NO_WAY = -1


def side_of(begin, kinds, behind):
    """(nodes, steps, words): nodes as first come to, for each and each kind the one behind, the words to them."""
    nodes, came, _ = search((begin,), kinds, behind)
    numbers = {node: number for number, node in enumerate(nodes)}
    steps = tuple(tuple(numbers[behind(node, kind)] for kind in kinds) for node in nodes)
    return nodes, steps, tuple(word_to(came, number) for number in range(len(nodes)))


def turned(words):
    """The words from their last letter to the first one."""
    return tuple(tuple(reversed(word)) for word in words)


class Roads:
    """Two sides of what stands around letters: nodes of what is ahead (i) and of what is behind (j).

    after[i][k] is the number of the node behind kind k, before[j][k] that of the one ahead of it, needed[i][j][k]
    is 1 if the kind is needed between i and j. Node i * (how many j) + j stands for (i, j).
    A way of a word goes from a begin (i is 0) to an end (j is 0), and each way between these is one.
    steps has (node, node behind, kind, 1 if it is needed, else 0). words has for both sides how they are come to.
    """

    def __init__(self, after, before, needed, words):
        self.kinds = tuple(range(len(after[0])))
        self.wide = len(before)
        self.many = len(after) * self.wide
        self.begins = tuple(range(self.wide))
        self.ends = tuple(range(0, self.many, self.wide))
        self.words_ahead, self.words_behind = words
        self.steps = []
        for i in range(len(after)):
            for j in range(self.wide):
                for kind in self.kinds:
                    begin = i * self.wide + before[j][kind]
                    self.steps.append((begin, after[i][kind] * self.wide + j, kind, needed[i][j][kind]))
        self.by_kinds = [[step for step in self.steps if step[2] == kind] for kind in self.kinds]

    def at_nodes(self, nodes):
        """The numbers of ways of no steps, from or to these nodes."""
        most = [NO_WAY] * self.many
        for node in nodes:
            most[node] = 0
        return most

    def one_more(self, most):
        """For each node the most needed steps of ways to it, by those of ways that are a step shorter."""
        more = [NO_WAY] * self.many
        for begin, end, _, need in self.steps:
            if most[begin] != NO_WAY and most[begin] + need > more[end]:
                more[end] = most[begin] + need
        return more

    def one_ahead(self, most):
        """For each node the most needed steps of ways from it, by those of ways that are a step shorter."""
        more = [NO_WAY] * self.many
        for begin, end, _, need in self.steps:
            if most[end] != NO_WAY and most[end] + need > more[begin]:
                more[begin] = most[end] + need
        return more

    def at_ends(self, most):
        """The most needed news of words, by the most needed steps of ways from a begin."""
        return max(most[node] for node in self.ends)

    def most_by(self, many):
        """The most needed news of words of no letters, of one, and so on."""
        most = self.at_nodes(self.begins)
        counts = [self.at_ends(most)]
        for _ in range(many):
            most = self.one_more(most)
            counts.append(self.at_ends(most))
        return tuple(counts)

    def first_with(self, wanted):
        """The length of the shortest words with so many needed news, of which there must be some."""
        most = self.at_nodes(self.begins)
        many = 0
        while self.at_ends(most) < wanted:
            most = self.one_more(most)
            many += 1
        return many

    def widest(self, many):
        """The least of the words of so many letters with the most needed news."""
        rows = [self.at_nodes(self.ends)]
        for _ in range(many):
            rows.append(self.one_ahead(rows[-1]))
        best = max(rows[many][node] for node in self.begins)
        # Of each node that a letter more leads to, the letters up to it are told by the node.
        nodes = {node: True for node in self.begins if rows[many][node] == best}
        word = []
        for left in reversed(range(many)):
            kind, nodes = self.least_step(nodes, rows[left + 1], rows[left])
            word.append(kind)
        return tuple(word)

    def least_step(self, nodes, most, behind):
        """(kind, nodes behind): the least kind of steps that lead the best ways on."""
        for kind in self.kinds:
            found = {}
            for begin, end, _, need in self.by_kinds[kind]:
                if begin in nodes and behind[end] != NO_WAY and behind[end] + need == most[begin]:
                    found[end] = True
            if found:
                return kind, found
        return None, nodes

    def heights(self, p, q):
        """(heights, None): for each node the greatest sum of q for each needed step, less p for each, of ways to it.

        (None, ring) if there is none: the steps of a ring with more needed steps than p for q.
        """
        heights = [0] * self.many
        came = [None] * self.many
        while True:
            raised = False
            for step in self.steps:
                begin, end, _, need = step
                height = heights[begin] + q * need - p
                if height > heights[end]:
                    heights[end] = height
                    came[end] = step
                    raised = True
            if not raised:
                return heights, None
            ring = ring_of(came)
            if ring is not None:
                return None, ring

    def steepest(self):
        """(p, q, heights, ring): the greatest mean p / q of needed steps of a ring, and such a ring.

        (0, 1, heights, None) if no ring has a needed step.
        """
        p, q, last = 0, 1, None
        heights, ring = self.heights(p, q)
        while ring is not None:
            needed = sum(need for _, _, _, need in ring)
            shared = gcd(needed, len(ring))
            p, q, last = needed // shared, len(ring) // shared, ring
            heights, ring = self.heights(p, q)
        return p, q, heights, last

    def in_rows(self, heights):
        """Heights set by set, relation by relation."""
        return tuple(tuple(heights[end:end + self.wide]) for end in self.ends)


def ring_of(came):
    """The steps of a ring among those by which nodes were last come to, or None."""
    looked_at = {}
    for node in range(len(came)):
        passed = {}
        while node not in looked_at and came[node] is not None:
            looked_at[node] = True
            passed[node] = True
            node = came[node][0]
        if node in passed:
            return ring_through(came, node)
    return None


def ring_through(came, node):
    """The steps of the ring that leads to a node, in their order."""
    steps = [came[node]]
    while steps[-1][0] != node:
        steps.append(came[steps[-1][0]])
    return list(reversed(steps))


def most_marks(roads):
    """The most needed steps of any way, or None."""
    heights, ring = roads.heights(0, 1)
    return None if ring is not None else max(heights)


def words_of_ring(roads, ring):
    """(ahead, ring, behind): words whose way goes round a ring of steps."""
    node = ring[0][0]
    kinds = tuple(kind for _, _, kind, _ in ring)
    return roads.words_ahead[node // roads.wide], kinds, roads.words_behind[node % roads.wide]
