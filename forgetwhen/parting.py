"""Fewest late words for the gaps of a record by which news are found to be needed."""

from heapq import heappop, heappush

from forgetwhen.least import parting_word_of
from forgetwhen.machines import then


def moves(machine, late, word, place, node):
    """(letters more, what is put there, node behind) for each move from a node.

    A node is (gap, states): of one state up to the place's gap, behind it of two, one for each story.
    The gap behind all others stands for what lies behind the tail.
    """
    maps = machine[0]
    gap, states = node
    if len(states) == 2 and states[0] == states[1]:
        return []
    found = [(1, kind, (gap, then(states, maps[kind]))) for kind in late]
    if gap == place:
        for put in late:
            one = maps[word[place]][maps[put][states[0]]]
            other = maps[put][maps[word[place]][states[0]]]
            found.append((0, put, (gap + 1, (one, other))))
    elif gap < len(word):
        found.append((0, None, (gap + 1, then(states, maps[word[gap]]))))
    else:
        tail = parting_word_of(machine, states[0], states[1])
        if tail is not None:
            found.append((len(tail), tail, (gap + 1, states)))
    return found


def fewest_letters(machine, late, word, place):
    """(came, node): the first node behind a tail, by letters, and whence each node was come to.

    There is such a node if the news at the place are needed.
    """
    begin = (0, (0,))
    letters = {begin: 0}
    came = {begin: None}
    queue = [(0, begin)]
    while True:
        many, node = heappop(queue)
        if node[0] > len(word):
            return came, node
        for more, put, behind in moves(machine, late, word, place, node):
            if behind not in letters or many + more < letters[behind]:
                letters[behind] = many + more
                came[behind] = (node, put)
                heappush(queue, (many + more, behind))


def parting_way(machine, late, word, place):
    """(ahead, kind, behind, tail) with the fewest letters in all, for needed news."""
    came, node = fewest_letters(machine, late, word, place)
    node, tail = came[node]
    words = [[] for _ in range(len(word) + 1)]
    kind = None
    while came[node] is not None:
        ahead, put = came[node]
        if ahead[0] == node[0]:
            words[node[0]].append(put)
        elif ahead[0] == place:
            kind = put
        node = ahead
    words = [tuple(reversed(letters)) for letters in words]
    return (tuple(words[:place + 1]), kind, tuple(words[place + 1:]), tail)
