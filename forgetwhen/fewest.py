"""The rows that are met along all stories, and the table of fewest words that never keeps more than is needed."""

from forgetwhen.errors import InvalidSize
from forgetwhen.gaps import Gaps
from forgetwhen.least import least_machine
from forgetwhen.machines import need_late, need_machine
from forgetwhen.rows import empty_row, form_of_row, row_behind_news, state_of_row
from forgetwhen.tables import MOST_MARKS, MOST_WORDS

MOST_ROWS = 420


class Met:
    """The rows that are met from the one without marks on, one for each form.

    steps[number][place][kind] is (number of the row behind, kept), None for a prompt kind ahead of a mark.
    """

    def __init__(self, machine, late):
        self.gaps = Gaps(machine, late)
        self.readings = machine[1]
        self.rows = []
        self.by_rows = {}
        self.by_forms = {}
        self.number_of(empty_row(machine))
        self.steps = []
        while len(self.steps) < len(self.rows):
            self.steps.append(self.steps_from(self.rows[len(self.steps)]))

    def number_of(self, row):
        """The number of a row, or of the one ahead that tells the same."""
        if row not in self.by_rows:
            form = form_of_row(self.gaps, row)
            if form not in self.by_forms:
                self.by_forms[form] = len(self.rows)
                self.rows.append(row)
                if len(row[1]) > MOST_MARKS:
                    raise InvalidSize("marks")
                if len(self.rows) > MOST_ROWS:
                    raise InvalidSize("rows")
            self.by_rows[row] = self.by_forms[form]
        return self.by_rows[row]

    def steps_from(self, row):
        kinds = tuple(range(len(self.gaps.maps)))
        last = len(row[1])
        return [
            [self.step(row, place, kind) if place == last or kind in self.gaps.late else None for kind in kinds]
            for place in range(last + 1)
        ]

    def step(self, row, place, kind):
        behind, kept = row_behind_news(self.gaps, row, place, kind)
        return (self.number_of(behind), kept)

    def names(self):
        """For each row (reading, how many with as many marks and this reading are ahead)."""
        told = {}
        names = []
        for row in self.rows:
            reading = self.readings[state_of_row(self.gaps.maps, row)]
            ahead = told.get((len(row[1]), reading), 0)
            names.append((reading, ahead))
            told[(len(row[1]), reading)] = ahead + 1
        return names


def need_met(machine, late):
    """The rows that are met, of the least machine."""
    machine = need_machine(machine)
    late = need_late(machine, late)
    return Met(least_machine(machine), late)


def met_rows(machine, late):
    """The rows of the least machine that are met along all stories, each that tells something else once."""
    return tuple(need_met(machine, late).rows)


def fewest_words(machine, late):
    """How many words the least twin has."""
    return len(set(need_met(machine, late).names()))


def least_twin(machine, late):
    """The table of fewest words among those that never keep more than is needed."""
    met = need_met(machine, late)
    names = met.names()
    words = sorted(set(names))
    if len(words) > MOST_WORDS:
        raise InvalidSize("words")
    numbers = {name: word for word, name in enumerate(words)}
    most = max(len(row[1]) for row in met.rows)
    rules = [[()] * (most + 1) for _ in words]
    for at, row in enumerate(met.rows):
        rules[numbers[names[at]]][len(row[1])] = rule_of(met.steps[at], [numbers[name] for name in names], at)
    told = tuple(tuple(row) for row in rules)
    return (numbers[names[0]], told, tuple(reading for reading, _ in words))


def rule_of(steps, words, at):
    """What becomes of a row's marks: place by place, kind by kind, a word and what is kept."""
    places = []
    for place, row in enumerate(steps):
        old = tuple(number for number in range(len(steps)) if number != place)
        rule = []
        for step in row:
            rule.append((words[at], old) if step is None else (words[step[0]], step[1]))
        places.append(tuple(rule))
    return tuple(places)
