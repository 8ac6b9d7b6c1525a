"""Texts of machines, stories and tables, written and read."""

from forgetwhen.machines import MOST_KINDS, MOST_STATES, READINGS, need_late, need_machine
from forgetwhen.stories import MOMENTS, MOST_NEWS, need_story
from forgetwhen.tables import MOST_MARKS, MOST_WORDS, need_twin
from forgetwhen.wording import Wording


def line_of(word, numbers):
    """A word and numbers, with a blank between two."""
    return " ".join([word, *[str(number) for number in numbers]])


def machine_text(machine, late):
    """The text of a machine and its late kinds."""
    maps, readings = need_machine(machine)
    late = need_late(machine, late)
    lines = [line_of("machine", (len(readings),))]
    for kind, one in enumerate(maps):
        lines.append(line_of("late" if kind in late else "prompt", one))
    lines.append(line_of("shows", readings))
    return "\n".join(lines)


def story_text(machine, late, story):
    """The text of a story: a line for each news."""
    story = need_story(machine, late, story)
    return "\n".join([f"at {moment} kind {kind}" for moment, kind in story])


def rule_line(word, number, places):
    """The line of what becomes of so many marks of a word."""
    parts = [f"word {word} marks {number}"]
    for row in places:
        for behind, kept in row:
            parts.append(f"to {behind}")
            if kept:
                parts.append(line_of("keeps", kept))
    return " ".join(parts)


def twin_text(machine, twin):
    """The text of a table."""
    first, rules, shown = need_twin(machine, twin)
    lines = [f"twin {len(rules)} marks {len(rules[0]) - 1}", f"begins {first}", line_of("shows", shown)]
    for word, row in enumerate(rules):
        for number, places in enumerate(row):
            if places:
                lines.append(rule_line(word, number, places))
    return "\n".join(lines)


def read_machine(text):
    """(machine, late), read from a text."""
    words = Wording(text)
    words.take("machine")
    many = words.take_number(1, MOST_STATES + 1)
    words.take("\n")
    maps = []
    late = []
    # The first line tells a kind; behind the last kind that is let, readings alone may come.
    told = words.take("late", "prompt")
    while told != "shows":
        if told == "late":
            late.append(len(maps))
        maps.append(words.take_numbers(many, many))
        words.take("\n")
        told = words.take("shows") if len(maps) == MOST_KINDS else words.take("late", "prompt", "shows")
    readings = words.take_numbers(many, READINGS)
    words.take_end()
    return ((tuple(maps), readings), tuple(late))


def read_story(machine, late, text):
    """A story, read from a text."""
    machine = need_machine(machine)
    late = need_late(machine, late)
    words = Wording(text)
    story = []
    greatest = -1
    while words.next_word() != "":
        if story:
            # Behind the greatest of all moments no prompt news come.
            words.need(len(story) < MOST_NEWS and (late != () or greatest < MOMENTS - 1))
            words.take("\n")
        story.append(read_news(words, machine, late, story, greatest))
        greatest = max(greatest, story[-1][0])
    return tuple(story)


def read_news(words, machine, late, story, greatest):
    """News that may be heard behind those of a story."""
    words.take("at")
    words.need(words.next_number() not in [news[0] for news in story])
    # Without late kinds no news can come below the greatest moment, of whatever kind they turn out to be.
    moment = words.take_number(0 if late else greatest + 1, MOMENTS)
    words.take("kind")
    kind = words.take_among(late if moment < greatest else tuple(range(len(machine[0]))))
    return (moment, kind)


def read_twin(machine, text):
    """A table for the kinds of a machine, read from a text."""
    kinds = len(need_machine(machine)[0])
    words = Wording(text)
    words.take("twin")
    many = words.take_number(1, MOST_WORDS + 1)
    words.take("marks")
    most = words.take_number(0, MOST_MARKS + 1)
    words.take("\n")
    words.take("begins")
    first = words.take_number(0, many)
    words.take("\n")
    words.take("shows")
    shown = words.take_numbers(many, READINGS)
    rules = [[()] * (most + 1) for _ in range(many)]
    left = many * (most + 1)
    while left > 0 and words.next_word() == "\n":
        words.take("\n")
        read_rules(words, kinds, rules)
        left -= 1
    words.take_end()
    return (first, tuple(tuple(row) for row in rules), shown)


def read_rules(words, kinds, rules):
    """The line of a word and a number of marks of which nothing was told yet."""
    words.take("word")
    row = rules[words.take_among([word for word, told in enumerate(rules) if () in told])]
    words.take("marks")
    number = words.take_among([marks for marks, places in enumerate(row) if places == ()])
    places = []
    for _ in range(number + 1):
        places.append(tuple(read_rule(words, len(rules), number, len(row) - 1) for _ in range(kinds)))
    row[number] = tuple(places)


def read_rule(words, many, number, most):
    """(the word behind, which of the marks and the new one are kept)"""
    words.take("to")
    behind = words.take_number(0, many)
    kept = []
    if most > 0 and words.next_word() == "keeps":
        words.take("keeps")
        kept.append(words.take_number(0, number + 1))
        while len(kept) < most and words.next_number() in list(range(kept[-1] + 1, number + 1)):
            kept.append(words.take_number(0, number + 1))
    return (behind, tuple(kept))
