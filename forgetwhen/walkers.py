"""Five walkers on the states of a least machine, who tell whether its loops forget when."""

from math import lcm

from forgetwhen.checks import all_below, is_below, is_tuple_of, is_within
from forgetwhen.court import court_holds, is_letter, is_stirred, letters_of, need_court, parts_of
from forgetwhen.errors import InvalidPaper, InvalidSize
from forgetwhen.least import need_least
from forgetwhen.machines import MOST_LETTERS, map_of, need_late, reach_words, state_behind, then
from forgetwhen.maps import still_times
from forgetwhen.search import search, word_to

MOST_WALKED = 4
MOST_TURNS = 60


def walkers_paper(machine, late):
    """A paper of walkers: a swap, or a turn left alone; None if loops forget when."""
    machine = need_least(machine)
    late = need_late(machine, late)
    many = len(machine[1])
    if many > MOST_WALKED:
        raise InvalidSize("states")
    states = tuple(range(many))
    for q in states:
        for one in states:
            for other in states:
                paper = paper_at(machine, late, (q, one, other))
                if paper is not None:
                    return paper
    return None


def paper_at(machine, late, states):
    """A paper of walkers from three states, or None."""
    q, one, other = states
    paper = turn_left_alone(machine, late, states) if other != q else None
    if paper is None and one != other:
        paper = swap(machine, late, states)
    return paper


def walk(machine, late, begins, turning, found):
    """(nodes, came, at) as `search` has them: walkers led by stirred words, the first ones by the turn alone."""
    maps = machine[0]

    def behind(node, letter):
        kind, put = letter
        if put == 1:
            return (*node[:turning], *[maps[kind][state] for state in node[turning:]])
        return tuple(maps[kind][state] for state in node)

    return search(begins, letters_of(machine, late), behind, found=found)


def turn_left_alone(machine, late, states):
    """A paper of a turn left alone at these states, or None."""
    q, z, w = states
    nodes, came, at = walk(machine, late, ((q, z, q, z, w),), 2, lambda node: node == (z, z, q, w, w))
    if at == len(nodes):
        return None
    return ("alone", states, word_to(came, at))


def swap(machine, late, states):
    """A paper of a swap at these states, or None."""
    q, r, t = states
    nodes, came, _ = walk(machine, late, ((q, r, t, q),), 3, None)
    numbers = {node: number for number, node in enumerate(nodes)}
    told = swapped(machine, late, nodes)
    further, came_on, at = walk(machine, late, tuple(told), 3, lambda node: node == (q, r, t, r, t))
    if at == len(further):
        return None
    node, kind, put = told[further[begin_of(came_on, at)]]
    return ("swap", states, word_to(came, numbers[node]), kind, put, word_to(came_on, at))


def swapped(machine, late, nodes):
    """Where two news lead the walkers, the late ones behind the turn's for the one, ahead for the other.

    For each node behind: (node ahead, kind of the turn, kind put in).
    """
    maps = machine[0]
    told = {}
    for node in nodes:
        for kind, one in enumerate(maps):
            for put in late:
                whole = (maps[put][one[node[3]]], one[maps[put][node[3]]])
                # Those who meet are never parted again.
                if whole[0] != whole[1]:
                    told.setdefault((*then(node[:3], one), *whole), (node, kind, put))
    return told


def begin_of(came, number):
    """The number of the begin from which a node was come to."""
    while came[number] is not None:
        number = came[number][0]
    return number


def walkers_hold(machine, late, value):
    """Whether any value is a paper of walkers."""
    machine = need_least(machine)
    return paper_holds(machine, need_late(machine, late), value)


def paper_holds(machine, late, value):
    """The same, of a machine and late kinds that were looked at."""
    if is_tuple_of(value, 6) and value[0] == "swap":
        return swap_holds(machine, late, value)
    if is_tuple_of(value, 3) and value[0] == "alone":
        return alone_holds(machine, late, value)
    return False


def are_three_states(machine, value):
    return is_tuple_of(value, 3) and all_below(value, len(machine[1]))


def swap_holds(machine, late, value):
    """Whether a tuple of six is a swap."""
    _, states, ahead, kind, put, behind = value
    if not (are_three_states(machine, states) and is_below(kind, len(machine[0]))):
        return False
    if not is_letter(machine, late, (put, 1)):
        return False
    q, r, t = states
    if r == t or not (is_stirred(machine, late, ahead) and is_stirred(machine, late, behind)):
        return False
    turn, _, whole = parts_of((*ahead, (kind, 0), (put, 1), *behind))
    _, _, other = parts_of((*ahead, (put, 1), (kind, 0), *behind))
    maps = machine[0]
    if [state_behind(maps, state, turn) for state in states] != [q, r, t]:
        return False
    return state_behind(maps, q, whole) == r and state_behind(maps, q, other) == t


def alone_holds(machine, late, value):
    """Whether a tuple of three is a turn left alone."""
    _, states, stirred = value
    if not (are_three_states(machine, states) and is_stirred(machine, late, stirred)):
        return False
    q, z, w = states
    turn, _, whole = parts_of(stirred)
    maps = machine[0]
    if w == q or state_behind(maps, q, turn) != z or state_behind(maps, z, turn) != z:
        return False
    return [state_behind(maps, state, whole) for state in states] == [q, w, w]


def need_walkers(machine, late, paper):
    """The paper of walkers, if it holds."""
    if not paper_holds(machine, late, paper):
        raise InvalidPaper(-1)
    return paper


def court_of_walk(machine, late, paper):
    """A paper of the court made of one of walkers."""
    machine = need_least(machine)
    late = need_late(machine, late)
    paper = need_walkers(machine, late, paper)
    if paper[0] == "swap":
        return amid_of_swap(machine, paper)
    stirred = paper[2]
    turn, _, whole = parts_of(stirred)
    many = lcm(still_times(map_of(machine, turn)), still_times(map_of(machine, whole)))
    return ("alone", stirred * many)


def amid_of_swap(machine, paper):
    """The one of a swap's two stirred words, on end more turns, of which not all is as what is put in alone."""
    _, states, ahead, kind, put, behind = paper
    one = (*ahead, (kind, 0), (put, 1), *behind)
    other = (*ahead, (put, 1), (kind, 0), *behind)
    turn, added, _ = parts_of(one)
    more = turn * (still_times(map_of(machine, turn)) - 1)
    on_end = tuple((letter, 0) for letter in more)
    # The turn leads the first state to itself: both words would lead it to where what is put in alone does.
    q, r, _ = states
    if state_behind(machine[0], q, [*added, *turn, *more]) != r:
        return ("amid", (*one, *on_end))
    return ("amid", (*other, *on_end))


def walk_of_court(machine, late, paper):
    """A paper of walkers made of one of the court."""
    machine, late, _ = need_court(machine, late)
    if not court_holds(machine, late, paper) or paper[0] == "level":
        raise InvalidPaper(-1)
    if paper[0] == "amid":
        return swap_of_amid(machine, paper[1])
    turn, _, whole = parts_of(paper[1])
    turned = map_of(machine, turn)
    led = map_of(machine, whole)
    missed = then(then(led, turned), led)
    begins = [state for state, end in enumerate(missed) if end != led[state]]
    q = led[begins[0]]
    return ("alone", (q, turned[q], led[turned[q]]), paper[1])


def swap_of_amid(machine, stirred):
    """A swap: what is put in goes behind the turn, one place at a time, and some step of it is not all one."""
    turn, _, _ = parts_of(stirred)
    moved = ()
    for at in reversed(range(len(stirred))):
        kind, put = stirred[at]
        if put == 1:
            paper = swap_past(machine, turn, stirred[:at], kind, moved)
            if paper is not None:
                return paper
            moved = ((kind, 1), *moved)
    return None


def swap_past(machine, turn, ahead, put, moved):
    """A swap of news put in behind these letters with one of the turn's kinds further on, or None."""
    maps = machine[0]
    turned = map_of(machine, turn)
    done, _, whole = parts_of(ahead)
    rest = turn[len(done):]
    on_end = tuple((kind, 0) for kind in turn)
    behind = tail_maps(machine, rest, parts_of((*moved, *on_end))[2])
    left = then(turned, map_of(machine, whole))
    for at, kind in enumerate(rest):
        one = then(then(then(left, maps[kind]), maps[put]), behind[at + 1])
        other = then(then(then(left, maps[put]), maps[kind]), behind[at + 1])
        if one != other:
            begins = [state for state, end in enumerate(one) if end != other[state]]
            states = tuple(led[begins[0]] for led in (turned, one, other))
            letters = tuple((letter, 0) for letter in rest)
            return ("swap", states, (*ahead, *letters[:at]), kind, put, (*letters[at + 1:], *moved, *on_end))
        left = then(left, maps[kind])
    return None


def tail_maps(machine, word, on_end):
    """The maps of a word and what is on end, from each of its letters on."""
    tails = [map_of(machine, on_end)]
    for kind in reversed(word):
        tails.append(then(machine[0][kind], tails[-1]))
    return list(reversed(tails))


def rising_word(machine, late, paper, many):
    """A word with at least so many needed news: turns of a paper of walkers."""
    machine = need_least(machine)
    late = need_late(machine, late)
    paper = need_walkers(machine, late, paper)
    if not is_within(many, 0, MOST_TURNS):
        raise InvalidSize("many")
    way = reach_words(machine)[paper[1][0]]
    word = way + turn_of(paper) * (many + 1)
    if len(word) > MOST_LETTERS:
        raise InvalidSize("letters")
    return word


def turn_of(paper):
    """The kinds of the turn of a paper that holds."""
    if paper[0] == "alone":
        return tuple(parts_of(paper[2])[0])
    _, _, ahead, kind, _, behind = paper
    return tuple(parts_of((*ahead, (kind, 0), *behind))[0])
