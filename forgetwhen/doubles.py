"""Two stories with withdrawn news that a table hears alike, though unlike readings are right at their ends."""

from forgetwhen.deceivers import tests_beyond
from forgetwhen.least import least_machine, parting_word_of
from forgetwhen.machines import map_of, reach_words
from forgetwhen.maps import still_times
from forgetwhen.tables import twin_step
from forgetwhen.withdrawn import back_of, both_lots


def deeds_in_order(word):
    """The deeds by which a word is heard, moments from 0 on."""
    return [(moment, kind, 0) for moment, kind in enumerate(word)]


def stories_beyond(machine, twin, kind):
    """Two such stories for a kind that can't be undone.

    It is heard so often that a table finds itself as it was, but for one gap of its marks that has grown by turns
    after which the kind is its own double. Then what stands alike is withdrawn: in one story all of that kind, in
    the other all but those turns.
    """
    least = least_machine(machine)
    turn = still_times(least[0][kind])
    double = map_of(least, (kind,) * turn)
    state = [one for one in range(len(double)) if double[one] != one][0]
    ahead = reach_words(least)[state]
    tail = parting_word_of(least, state, double[state])
    many, end, more = grown_gap(twin, ahead, kind, turn)
    stories = []
    for grown in (0, more):
        heard = many + grown
        in_order = deeds_in_order(ahead + (kind,) * (heard - len(ahead)))
        back = [(moment, kind, 1) for moment in range(len(ahead), heard) if not end <= moment < end + grown]
        on_end = [(heard + at, letter, 0) for at, letter in enumerate(tail)]
        stories.append((*in_order, *back, *on_end))
    return tuple(stories)


def grown_gap(twin, ahead, kind, turn):
    """(many, end, more): behind so many news, and behind more, a whole number of turns, a table stands alike.

    But for one gap of its marks: it ends at a moment from the first news of the kind on, and has grown.
    """
    word, marks = twin[0], ()
    heard = 0
    known = {}
    while True:
        if heard >= len(ahead):
            for gap, end in enumerate((*marks, heard)):
                key = (word, marks[:gap], tuple(mark - end for mark in marks[gap:]), heard - end, heard % turn)
                if end >= len(ahead) and key in known:
                    many, first_end = known[key]
                    return many, first_end, heard - many
                if end >= len(ahead):
                    known[key] = (heard, end)
        letter = ahead[heard] if heard < len(ahead) else kind
        word, marks = twin_step(twin, word, marks, heard, letter)
        heard += 1


class Layout:
    """A word with room for what papers put in: moments, from 0 on, of its news and of what stands around them.

    What may come late has a moment that is not heard at first. Of each other kind so many news are heard there that
    they change nothing, and all but one can be withdrawn.
    around has for each paper what is put just ahead of its news and just behind them, put what stands in the gaps:
    pairs (kind, moments).
    """

    def __init__(self, late, turns, word, papers):
        self.late = late
        self.turns = turns
        self.free = 0
        self.heard = []
        self.put = [[] for _ in papers]
        self.around = {}
        for gap in range(len(word) + 1):
            for number, (_, paper) in enumerate(papers):
                self.put[number].extend([self.slot(kind) for kind in (paper[1] + paper[3])[gap]])
            if gap < len(word):
                self.lay(gap, word[gap], papers)
        self.ends = self.free

    def lay(self, place, kind, papers):
        """The news of a place, with what a paper of this place puts around it."""
        own = [(number, paper[2]) for number, (at, paper) in enumerate(papers) if at == place]
        ahead = [self.slot(put) for _, put in own]
        news = self.taken(1)
        self.heard.append((news[0], kind, 0))
        for number, put in own:
            self.around[number] = (ahead[0], self.slot(put))

    def taken(self, many):
        """The next moments, so many of them."""
        self.free += many
        return tuple(range(self.free - many, self.free))

    def slot(self, kind):
        """(kind, moments) of one letter that may be put in."""
        if kind in self.late:
            return (kind, self.taken(1))
        moments = self.taken(self.turns[kind])
        self.heard.extend([(moment, kind, 0) for moment in moments])
        return (kind, moments)

    def deeds_of(self, slot):
        """The deeds by which a letter is put in."""
        kind, moments = slot
        if kind in self.late:
            return [(moments[0], kind, 0)]
        return [(moment, kind, 1) for moment in moments[1:]]

    def is_clear(self, number, marks):
        """Whether no mark lies about the news of a paper."""
        (_, ahead), (_, behind) = self.around[number]
        return not any(ahead[0] <= mark <= behind[-1] for mark in marks)


def stories_amid(machine, late, gone, twin):
    """Two such stories where kinds can be undone, but no number of marks is enough.

    A record has more needed news than there are marks: about some of them no mark lies. What is put in just ahead of
    these news or just behind them is heard alike.
    """
    least = least_machine(machine)
    word, papers = tests_beyond(least, both_lots(late, gone), len(twin[1][0]) - 1)
    turns = {kind: len(back_of(machine, kind)) + 1 for kind in gone}
    layout = Layout(late, turns, word, papers)
    stands, marks = twin[0], ()
    for moment, kind, _ in layout.heard:
        stands, marks = twin_step(twin, stands, marks, moment, kind)
    number = [at for at in range(len(papers)) if layout.is_clear(at, marks)][0]
    between = []
    for slot in layout.put[number]:
        between.extend(layout.deeds_of(slot))
    tail = papers[number][1][4]
    on_end = [(layout.ends + at, kind, 0) for at, kind in enumerate(tail)]
    stories = []
    for slot in layout.around[number]:
        first = layout.deeds_of(slot)
        stories.append((*layout.heard, *first, *between, *on_end))
    return tuple(stories)
