"""The court of loops: whether loops of a least machine forget when."""

from forgetwhen.checks import all_below, is_below, is_row_of, is_row_within, is_tuple_of
from forgetwhen.errors import InvalidWord
from forgetwhen.least import need_least
from forgetwhen.machines import MOST_LETTERS, map_of, need_late
from forgetwhen.maps import MOST_MAPS
from forgetwhen.monoid import Monoid
from forgetwhen.search import search, word_to

MOST_COURT = 60
MOST_PLAIN = 24


def is_letter(machine, late, value):
    """Whether any value is a letter of a stirred word: a kind of the turn, or a late kind put in."""
    if not (is_row_of(value, 2) and is_below(value[0], len(machine[0])) and is_below(value[1], 2)):
        return False
    return value[1] == 0 or value[0] in late


def need_stirred(machine, late, value):
    """The stirred word, in tuples, of at most 400 letters."""
    if not is_row_within(value, 0, MOST_LETTERS):
        raise InvalidWord(-1)
    for at, letter in enumerate(value):
        if not is_letter(machine, late, letter):
            raise InvalidWord(at)
    return tuple((kind, put) for kind, put in value)


def is_stirred(machine, late, value):
    """Whether any value is a stirred word in tuples, however long."""
    if not isinstance(value, tuple):
        return False
    return all(isinstance(letter, tuple) and is_letter(machine, late, letter) for letter in value)


def parts_of(stirred):
    """The words of the turn, of what is put in, and of all."""
    turn = [kind for kind, put in stirred if put == 0]
    return turn, [kind for kind, put in stirred if put == 1], [kind for kind, _ in stirred]


def stirred_maps(machine, late, stirred):
    """The map of a stirred word's turn, of what is put in, and of all."""
    machine = need_least(machine)
    late = need_late(machine, late)
    return tuple(map_of(machine, word) for word in parts_of(need_stirred(machine, late, stirred)))


def letters_of(machine, late):
    """All letters, ascending."""
    letters = []
    for kind in range(len(machine[0])):
        letters.append((kind, 0))
        if kind in late:
            letters.append((kind, 1))
    return tuple(letters)


def turn_behind(monoid, node, letter):
    """The pair (turn, all) of a stirred word with a letter more."""
    turn, whole = node
    kind, put = letter
    return (turn if put == 1 else monoid.after[turn][kind], monoid.after[whole][kind])


def all_turns(monoid, machine, late):
    """(nodes, came) as `search` has them: pairs (map of the turn, map of all) of stirred words."""
    letters = letters_of(machine, late)
    nodes, came, _ = search(((0, 0),), letters, lambda node, letter: turn_behind(monoid, node, letter))
    return nodes, came


def turns_at(nodes, number):
    """The places, among the nodes, of the stirred turns of a map."""
    return [at for at, node in enumerate(nodes) if node[0] == number]


def deep_at(monoid, turns):
    """(many, maps): the products of so many of these turns, as soon as one more changes nothing."""
    many = 1
    deep = sorted(turns)
    deeper = sorted({monoid.times[one][other] for one in deep for other in turns})
    while deeper != deep:
        many += 1
        deep = deeper
        deeper = sorted({monoid.times[one][other] for one in deep for other in turns})
    return many, tuple(deep)


def stirred_turns(machine, late, number):
    """Pairs (stirred turn of an idempotent map, the least of its shortest stirred words)."""
    machine = need_least(machine)
    late = need_late(machine, late)
    monoid = Monoid(machine, MOST_MAPS)
    number = monoid.need_idempotent(number)
    nodes, came = all_turns(monoid, machine, late)
    return tuple((nodes[at][1], word_to(came, at)) for at in turns_at(nodes, number))


def deep_turns(machine, late, number):
    """(many, maps): the products of many stirred turns, so many that those of one more are just these."""
    machine = need_least(machine)
    late = need_late(machine, late)
    monoid = Monoid(machine, MOST_MAPS)
    number = monoid.need_idempotent(number)
    nodes, _ = all_turns(monoid, machine, late)
    return deep_at(monoid, [nodes[at][1] for at in turns_at(nodes, number)])


def need_court(machine, late):
    """A least machine, its late kinds, its maps."""
    machine = need_least(machine)
    late = need_late(machine, late)
    return machine, late, Monoid(machine, MOST_COURT)


def row_behind(monoid, row, letter):
    """The row (turn, all, put in) of a stirred word with a letter more."""
    turn, whole, put = row
    kind, added = letter
    if added == 1:
        return (turn, monoid.after[whole][kind], monoid.after[put][kind])
    return (monoid.after[turn][kind], monoid.after[whole][kind], put)


def is_amid(monoid, row):
    """Whether between turns it is not all one where what is put in stands."""
    turn, whole, put = row
    return monoid.is_idempotent(turn) and monoid.product(turn, whole, turn) != monoid.product(turn, put, turn)


def is_alone(monoid, row):
    """Whether a turn left alone is missed among stirred ones."""
    turn, whole, _ = row
    if not (monoid.is_idempotent(turn) and monoid.is_idempotent(whole)):
        return False
    return monoid.product(whole, turn, whole) != whole


def is_fault(monoid, row):
    return is_amid(monoid, row) or is_alone(monoid, row)


def court_paper(machine, late):
    """A paper that tells whether loops forget when."""
    machine, late, monoid = need_court(machine, late)
    rows, came, at = search(
        ((0, 0, 0),),
        letters_of(machine, late),
        lambda row, letter: row_behind(monoid, row, letter),
        found=lambda row: is_fault(monoid, row),
    )
    if at == len(rows):
        return ("level", tuple(sorted(rows)))
    return ("amid" if is_amid(monoid, rows[at]) else "alone", word_to(came, at))


def court_holds(machine, late, value):
    """Whether any value is a paper of the court."""
    machine, late, monoid = need_court(machine, late)
    if not is_tuple_of(value, 2):
        return False
    if value[0] == "level":
        return is_level(monoid, letters_of(machine, late), value[1])
    if value[0] not in ("amid", "alone") or not is_stirred(machine, late, value[1]):
        return False
    turn, put, whole = [monoid.numbers[map_of(machine, word)] for word in parts_of(value[1])]
    if value[0] == "amid":
        return is_amid(monoid, (turn, whole, put))
    return is_alone(monoid, (turn, whole, put))


def is_row_of_maps(monoid, value):
    """Whether any value is a triple of numbers of maps."""
    return is_tuple_of(value, 3) and all_below(value, monoid.size())


def is_level(monoid, letters, value):
    """Whether any value is a lot of rows with all those behind its own, none of them a fault."""
    if not isinstance(value, tuple) or not all(is_row_of_maps(monoid, row) for row in value):
        return False
    if any(one >= other for one, other in zip(value, value[1:])):
        return False
    told = {row: True for row in value}
    if (0, 0, 0) not in told or any(is_fault(monoid, row) for row in value):
        return False
    return all(row_behind(monoid, row, letter) in told for row in value for letter in letters)


def loops_forget(machine, late):
    """Whether loops of a machine forget when, for late kinds."""
    return court_paper(machine, late)[0] == "level"


def plain_forget(machine, late):
    """Whether between deep turns it is all one where in a turn late kinds stand."""
    machine = need_least(machine)
    late = need_late(machine, late)
    monoid = Monoid(machine, MOST_PLAIN)
    nodes, _ = all_turns(monoid, machine, late)
    for number in range(monoid.size()):
        if monoid.is_idempotent(number):
            _, deep = deep_at(monoid, [nodes[at][1] for at in turns_at(nodes, number)])
            if not is_plain_at(monoid, letters_of(machine, late), number, deep):
                return False
    return True


def is_plain_at(monoid, letters, number, deep):
    """Whether, between deep maps, an idempotent map cut for late kinds is as the whole map for each part."""
    rows, _, _ = search(((0, 0, number),), letters, lambda row, letter: cut_behind(monoid, number, row, letter))
    between = [
        [monoid.product(ahead, one, behind) for ahead in deep for behind in deep] for one in range(monoid.size())
    ]
    return all(between[cut] == between[whole] for done, cut, whole in rows if done == number)


def cut_behind(monoid, number, row, letter):
    """What a letter more makes of (the parts, the parts with late kinds between them, the whole map for each part)."""
    done, cut, whole = row
    kind, put = letter
    if put == 1:
        return (done, monoid.after[cut][kind], monoid.product(whole, monoid.after[0][kind], number))
    return (monoid.after[done][kind], monoid.after[cut][kind], whole)
