"""Stories by which twins with too few marks are deceived, and papers that judge any twin."""

from forgetwhen.checks import is_below, is_tuple_of
from forgetwhen.errors import InvalidMarks, InvalidPaper
from forgetwhen.judging import judged, right_holds, wrong_holds
from forgetwhen.machines import MOST_LETTERS, need_late, need_machine
from forgetwhen.needed import needed_holds, needed_of, paper_of, stories_of, two_stories
from forgetwhen.roads import most_marks, words_of_ring
from forgetwhen.tables import first_wrong_of, need_twin, stands_of
from forgetwhen.web import need_roads
from forgetwhen.ways import is_word

MOST_ASKED = 12


def need_marks(marks):
    if not is_below(marks, MOST_ASKED + 1):
        raise InvalidMarks(-1)
    return marks


def need_deceived(machine, late, marks):
    machine = need_machine(machine)
    late = need_late(machine, late)
    return machine, late, need_marks(marks)


def deceiving_word(machine, late, marks):
    """The shortest, then least word with more needed news than so many marks, or None."""
    machine, late, marks = need_deceived(machine, late, marks)
    return word_beyond(need_roads(machine, late), marks)


def word_beyond(roads, marks):
    """The shortest, then least word with more needed steps than so many, or None."""
    most = most_marks(roads)
    if most is not None and most <= marks:
        return None
    return roads.widest(roads.first_with(marks + 1))


def deceiving_tests(machine, late, marks):
    """A word with more needed news than marks, and for the first of these papers that tell why; or None."""
    machine, late, marks = need_deceived(machine, late, marks)
    return tests_beyond(machine, late, marks)


def tests_beyond(machine, late, marks):
    """The tests for so many marks, of things that were looked at, or None."""
    word = word_beyond(need_roads(machine, late), marks)
    if word is None:
        return None
    places = needed_of(machine, late, word)[:marks + 1]
    return (word, tuple((place, paper_of(machine, late, word, place)) for place in places))


def tests_hold(machine, late, marks, value):
    """Whether any value is a word and papers for one more of its places than marks."""
    machine, late, marks = need_deceived(machine, late, marks)
    if not is_tuple_of(value, 2):
        return False
    word, papers = value
    if not is_word(machine, word) or len(word) > MOST_LETTERS or not is_tuple_of(papers, marks + 1):
        return False
    last = -1
    for paper in papers:
        if not (is_tuple_of(paper, 2) and is_below(paper[0], len(word)) and paper[0] > last):
            return False
        last = paper[0]
    return all(needed_holds(machine, late, word, place, paper) for place, paper in papers)


def test_stories(machine, late, marks, value):
    """For each paper of the tests its two stories, all in one row."""
    if not tests_hold(machine, late, marks, value):
        raise InvalidPaper(-1)
    word, papers = value
    heard = tuple(enumerate(word))
    stories = []
    for place, paper in papers:
        stories.extend(two_stories(machine, late, heard, place, paper))
    return tuple(stories)


def test_bound(machine, late):
    """(a, b): the stories of the tests for c marks have at most a (c + 1) + b news; None if the machine is level."""
    machine = need_machine(machine)
    late = need_late(machine, late)
    roads = need_roads(machine, late)
    _, _, _, ring = roads.steepest()
    if ring is None:
        return None
    ahead, turn, behind = words_of_ring(roads, ring)
    states = len(machine[1])
    # The most late words that a paper has for a gap: states - 1 of them ahead, states * (states - 1) // 2 behind.
    put = max(states - 1, states * (states - 1) // 2)
    outside = len(ahead) + len(behind)
    # A word with c + 1 needed news has at most c + 1 turns and what is outside; then gaps, the news put in, the tail.
    return (len(turn) * (1 + put), outside * (1 + put) + put + 1 + states)


def deceive(machine, late, twin):
    """The first story of the tests for a twin's number of marks that it shows wrong, and behind how many news.

    None if a right twin can do with so many marks.
    """
    machine = need_machine(machine)
    late = need_late(machine, late)
    twin = need_twin(machine, twin)
    tests = tests_beyond(machine, late, len(twin[1][0]) - 1)
    if tests is None:
        return None
    word, papers = tests
    stories = []
    for place, paper in papers:
        stories.extend(stories_of(tuple(enumerate(word)), place, paper))
    # Each story is gone through to its end, ahead of all else: rules may be wanted there that are not told.
    for story in stories:
        stands_of(twin, story)
    return first_deceived(machine, twin, stories)


def first_deceived(machine, twin, stories):
    """The first story that a twin shows wrong, of which there must be some, and behind how many news."""
    found = [(story, first_wrong_of(machine, twin, story)) for story in stories]
    return [pair for pair in found if pair[1] is not None][0]


def judge_twin(machine, late, twin):
    """A paper that tells that a twin is right for all stories, or a story that it shows wrong."""
    machine = need_machine(machine)
    late = need_late(machine, late)
    return judged(machine, late, need_twin(machine, twin))


def judged_holds(machine, late, twin, value):
    """Whether any value is such a paper."""
    machine = need_machine(machine)
    late = need_late(machine, late)
    twin = need_twin(machine, twin)
    if not is_tuple_of(value, 2):
        return False
    if value[0] == "right":
        return right_holds(machine, late, twin, value[1])
    if value[0] == "wrong":
        return wrong_holds(machine, late, twin, value[1])
    return False
