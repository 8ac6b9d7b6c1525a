"""A desk: commands in words, and what is to be shown."""

from forgetwhen.errors import InvalidCommand, InvalidText
from forgetwhen.fewest import least_twin
from forgetwhen.least import least_machine
from forgetwhen.live import Live
from forgetwhen.past import past_marks
from forgetwhen.prompt import level_lots
from forgetwhen.texts import machine_text, read_machine, twin_text
from forgetwhen.withdrawn import withdrawn_marks
from forgetwhen.wording import FIGURES, stretch_end

MOST_FIGURES = 7


def number_said(word):
    """The number that a word of a command is."""
    if word == "" or len(word) > MOST_FIGURES or stretch_end(word, 0, FIGURES) < len(word):
        raise InvalidCommand()
    if word[0] == "0" and len(word) > 1:
        raise InvalidCommand()
    return int(word)


def number_alone(words):
    """The number that one word of a command is, which stands alone."""
    if len(words) != 1:
        raise InvalidCommand()
    return number_said(words[0])


def deed_said(words):
    """The deed of a command to hear news, or to withdraw them."""
    if len(words) != 3 or words[0] not in ("hear", "withdraw"):
        raise InvalidCommand()
    return (number_said(words[1]), number_said(words[2]), 1 if words[0] == "withdraw" else 0)


def deed_line(deed):
    """A deed as it would be said."""
    moment, kind, done = deed
    return f"withdraw {moment} {kind}" if done == 1 else f"hear {moment} {kind}"


def lines_of(lines):
    """Lines as one text, or what stands for none."""
    return "\n".join(lines) if lines else "none"


def row_of(numbers):
    return " ".join([str(number) for number in numbers])


def news_lines(news):
    return lines_of([f"at {moment} kind {kind}" for moment, kind in news])


def lot_line(lot):
    return row_of(lot) if lot else "-"


def number_or_none(number):
    return "none" if number is None else str(number)


def opened(command):
    """Another room by hand, of a command to open one."""
    # Where there are no further lines, the text is empty, and can't be read.
    line, _, text = command.partition("\n")
    gone = [number_said(word) for word in line.split(" ")[1:]]
    try:
        machine, late = read_machine(text)
    except InvalidText:
        raise InvalidCommand() from None
    return Live(machine, late, tuple(gone))


def done_said(live, words):
    """What is shown of a command to do something, or to think it done; None if it has no such form."""
    if words[0] in ("hear", "withdraw"):
        return row_of(live.do_deed(deed_said(words)))
    if words == ["undo"]:
        return "yes" if live.undo_deed() else "no"
    if words == ["redo"]:
        return "yes" if live.redo_deed() else "no"
    if words[0] == "if":
        number = number_alone(words[1:2])
        return row_of(live.shown_if(number, deed_said(words[2:])))
    if words[0] == "then":
        return str(live.shown_then(number_alone(words[1:])))
    if words[0] == "at":
        return str(live.shown_at(number_alone(words[1:])))
    return None


def room_asked(live, words):
    """What is shown of a question about the room; None if it has no such form."""
    room = live.room
    if words == ["shown"]:
        return str(room.shown())
    if words == ["kept"]:
        return news_lines(room.kept())
    if words == ["standing"]:
        return news_lines(live.standing())
    if words == ["deeds"]:
        return lines_of([deed_line(deed) for deed in live.deeds])
    if words == ["may"]:
        return row_of(room.may_show())
    if words[0] == "late":
        return row_of(room.if_late(number_alone(words[1:])))
    if words[0] == "alarms":
        return lines_of([row_of(alarm) for alarm in room.alarms(number_alone(words[1:]))])
    return None


def machine_asked(room, words):
    """What is shown of a question about the machine; None if it has no such form."""
    machine, late = room.machine, room.late
    if words == ["machine"]:
        return machine_text(machine, late)
    if words == ["least"]:
        return machine_text(least_machine(machine), late)
    if words == ["marks"]:
        return number_or_none(withdrawn_marks(machine, late, room.gone))
    if words == ["past"]:
        return number_or_none(past_marks(machine, late))
    if words == ["lots"]:
        return lines_of([lot_line(lot) for lot in level_lots(machine)])
    if words == ["table"]:
        return twin_text(machine, least_twin(machine, late))
    return None


class Desk:
    """A room by hand that is told what to do in words."""

    def __init__(self):
        self.live = None

    def say(self, command):
        """Does what a command says; what is to be shown."""
        if not isinstance(command, str):
            raise InvalidCommand()
        if command.partition("\n")[0].split(" ")[0] == "open":
            self.live = opened(command)
            return "done"
        if self.live is None:
            raise InvalidCommand()
        words = command.split(" ")
        shown = done_said(self.live, words)
        if shown is None:
            shown = room_asked(self.live, words)
        if shown is None:
            shown = machine_asked(self.live.room, words)
        if shown is None:
            raise InvalidCommand()
        return shown
