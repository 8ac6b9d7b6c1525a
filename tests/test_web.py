"""Promises [19] and [20]."""

from forgetwhen.court import loops_forget
from forgetwhen.errors import InvalidLate, InvalidMachine, InvalidWord
from forgetwhen.least import least_machine
from forgetwhen.needed import needed_news, word_relations, word_sets
from forgetwhen.web import (
    backward_relations, forward_sets, relation_words, set_words, standing_steps, web, web_way,
)
from tests.support import EIGHT, LAST, RING, VALVE, Case, all_words, lots_of, mixed_machines


def cases(seed, count=40):
    """Machines with each lot of late kinds."""
    for machine in mixed_machines(count, seed, 4, 3, 3):
        for late in lots_of(len(machine[0])):
            yield machine, late


def first_met(kinds, told):
    """What is told of words, each once, and its first word, by words of one letter more as long as there are new."""
    found = {told(()): ()}
    words = [()]
    while words:
        words = [(*word, kind) for word in words for kind in range(kinds)]
        fresh = []
        for word in words:
            if told(word) not in found:
                found[told(word)] = word
                fresh.append(word)
        words = fresh
    return found


class WebTest(Case):
    def test_examples(self):
        self.is_just(forward_sets(VALVE, ()), ((0,), (1,)))
        self.is_just(set_words(VALVE, ()), ((), (0,)))
        self.is_just(backward_relations(VALVE, ()), ((0, 1), (0, 0)))
        self.is_just(relation_words(VALVE, ()), ((), (1,)))
        self.is_just(web(VALVE, (0,)), (
            ((0, 1),), ((0, 1), (0, 0)), ((0, 0),), ((0, 1), (1, 1)), (((0, 1), (0, 0)),),
        ))
        self.is_just(web(LAST, (0, 1)), (
            ((0, 1),), ((0, 1), (0, 0)), ((0, 0),), ((1, 1), (1, 1)), (((1, 1), (0, 0)),),
        ))
        self.is_just(web_way(VALVE, (0,), ()), (((0, 0),), ()))
        self.is_just(web_way(VALVE, (0,), (1, 0, 1, 0)), (((0, 1), (0, 1), (0, 1), (0, 0), (0, 0)), (0, 0, 1, 0)))
        self.is_just(standing_steps(VALVE, (0,)), ())
        self.is_just(standing_steps(VALVE, (0, 1)), ((0, 0, 0),))

    def test_sets(self):
        for machine, late in cases(1901):
            found = first_met(len(machine[0]), lambda word: word_sets(machine, late, word)[-1])
            self.is_just(forward_sets(machine, late), tuple(found))
            self.is_just(set_words(machine, late), tuple(found.values()))

    def test_relations(self):
        for machine, late in cases(1902):
            found = first_met(len(machine[0]), lambda word: word_relations(machine, late, word[::-1])[0])
            self.is_just(backward_relations(machine, late), tuple(found))
            self.is_just(relation_words(machine, late), tuple(word[::-1] for word in found.values()))

    def test_steps(self):
        for machine, late in cases(1903, 25):
            sets, relations, after, before, needed = web(machine, late)
            self.is_just(sets, forward_sets(machine, late))
            self.is_just(relations, backward_relations(machine, late))
            set_to, relation_to = set_words(machine, late), relation_words(machine, late)
            kinds = range(len(machine[0]))
            for i, word in enumerate(set_to):
                self.is_just(after[i], tuple(sets.index(word_sets(machine, late, (*word, k))[-1]) for k in kinds))
            for j, word in enumerate(relation_to):
                self.is_just(before[j], tuple(
                    relations.index(word_relations(machine, late, (k, *word))[0]) for k in kinds
                ))
            for i, ahead in enumerate(set_to):
                for j, behind in enumerate(relation_to):
                    self.is_just(needed[i][j], tuple(
                        int(len(ahead) in needed_news(machine, late, (*ahead, k, *behind))) for k in kinds
                    ))

    def test_ways(self):
        for machine, late in cases(1904, 20):
            sets, relations, after, before, needed = web(machine, late)
            for word in all_words(len(machine[0]), 4):
                nodes, flags = web_way(machine, late, word)
                self.is_just(flags, tuple(
                    int(place in needed_news(machine, late, word)) for place in range(len(word))
                ))
                self.is_just(tuple(sets[i] for i, _ in nodes), word_sets(machine, late, word))
                self.is_just(tuple(relations[j] for _, j in nodes), word_relations(machine, late, word))
                for at, kind in enumerate(word):
                    (i, ahead), (behind, j) = nodes[at:at + 2]
                    self.is_just((ahead, behind, flags[at]), (before[j][kind], after[i][kind], needed[i][j][kind]))

    def test_standing_steps(self):
        for machine, late in cases(1905):
            sets, relations, after, before, needed = web(machine, late)
            wanted = []
            for i in range(len(sets)):
                for j in range(len(relations)):
                    for k in range(len(machine[0])):
                        if needed[i][j][k] and (after[i][k], j) == (i, before[j][k]):
                            wanted.append((i, j, k))
            self.is_just(standing_steps(machine, late), tuple(wanted))

    def test_all_kinds_late(self):
        """No standing step exactly if loops forget when."""
        told = {True: 0, False: 0}
        for machine in mixed_machines(400, 1906, 3, 2, 2):
            machine = least_machine(machine)
            late = tuple(range(len(machine[0])))
            forgets = loops_forget(machine, late)
            self.is_just(standing_steps(machine, late) == (), forgets)
            told[forgets] += 1
        self.assertGreater(min(told.values()), 5)

    def test_free_news_stay_free(self):
        for machine, late in cases(1907, 12):
            kinds = range(len(machine[0]))
            for word in all_words(len(kinds), 3):
                needed = needed_news(machine, late, word)
                for gap in range(len(word) + 1):
                    for kind in kinds if gap == len(word) else late:
                        more = needed_news(machine, late, (*word[:gap], kind, *word[gap:]))
                        still = {place - (place > gap) for place in more if place != gap}
                        self.assertLessEqual(still, set(needed))

    def test_long_ways(self):
        nodes, flags = web_way(RING, (0,), (0,) * 400)
        self.assertEqual((len(nodes), len(flags)), (401, 400))
        self.assertEqual(len(forward_sets(EIGHT, ())), 8)

    def test_wrong_arguments(self):
        for call in (forward_sets, set_words, backward_relations, relation_words, web, standing_steps):
            self.refuses(InvalidMachine, 0, call, (((2,),), (0,)), (5,))
            self.refuses(InvalidLate, 1, call, VALVE, (1, 1))
            self.refuses(InvalidLate, -1, call, VALVE, None)
        self.refuses(InvalidLate, 0, web_way, VALVE, (True,), 5)
        self.refuses(InvalidWord, -1, web_way, VALVE, (0,), (0,) * 401)
        self.refuses(InvalidWord, 2, web_way, VALVE, (0,), (0, 1, 2))
