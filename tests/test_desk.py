"""Promises [57] and [58]: commands of the desk, and what is asked of it."""

import re

from forgetwhen.desk import Desk
from forgetwhen.errors import (
    InvalidCommand, InvalidDeed, InvalidIndex, InvalidKind, InvalidLot, InvalidMoment, InvalidReadings, InvalidSize,
    Refused, TwinError,
)
from forgetwhen.fewest import least_twin
from forgetwhen.least import least_machine
from forgetwhen.live import Live
from forgetwhen.past import past_marks
from forgetwhen.prompt import level_lots
from forgetwhen.texts import machine_text, twin_text
from forgetwhen.withdrawn import withdrawn_marks
from tests.support import LAST, ODD_VALUES, RING, VALVE, Case, Chance
from tests.test_live import any_deed
from tests.test_withdrawn import DOUBLE, SPUN, fitting, turned_machines

OPENED = "open 0\nmachine 2\nlate 1 0\nprompt 0 0\nshows 0 1"
# For each state the machine shows another number, and no number of marks is enough.
GREAT = "open\n" + machine_text((((1, 2, 3, 3), (0, 0, 1, 2), (3, 3, 0, 0)), (9, 8, 7, 6)), (0, 1, 2))

NUMBER = "(0|[1-9][0-9]{0,6})"
DEED = f"(hear|withdraw) {NUMBER} {NUMBER}"
FORMS = (
    f"{DEED}|if {NUMBER} {DEED}|(then|at|late|alarms) {NUMBER}|undo|redo|shown|kept|standing|deeds|may|machine|least|"
    "marks|past|lots|table"
)
ASKED = ("shown", "kept", "standing", "deeds", "may", "machine", "least", "marks", "past", "lots", "table")


def opening(machine, late, gone):
    return " ".join(["open", *[str(kind) for kind in gone]]) + "\n" + machine_text(machine, late)


def lines_of(lines):
    return "\n".join(lines) or "none"


def row_of(numbers):
    return " ".join(str(number) for number in numbers)


def said(desk, *commands):
    return [desk.say(command) for command in commands]


class DeskCase(Case):
    def is_no_command(self, desk, command):
        with self.assertRaises(InvalidCommand) as caught:
            desk.say(command)
        self.assertEqual(vars(caught.exception), {})

    def asked_right(self, desk, live):
        """All that is asked, by what another room by hand tells."""
        machine, late, room = live.room.machine, live.room.late, live.room
        told = {
            "shown": str(room.shown()),
            "kept": lines_of(f"at {moment} kind {kind}" for moment, kind in room.kept()),
            "standing": lines_of(f"at {moment} kind {kind}" for moment, kind in live.standing()),
            "deeds": lines_of(
                f"{'withdraw' if done else 'hear'} {moment} {kind}" for moment, kind, done in live.deeds
            ),
            "may": row_of(room.may_show()),
        }
        for kind in late:
            told[f"late {kind}"] = row_of(room.if_late(kind))
        for reading in (0, 1, 2, 99):
            told[f"alarms {reading}"] = lines_of(row_of(alarm) for alarm in room.alarms(reading))
        for command, wanted in told.items():
            self.is_just(desk.say(command), wanted)


class SessionTest(DeskCase):
    def test_sessions(self):
        chance = Chance(57)
        for machine, late, gone in fitting(chance, turned_machines(40, 58)):
            desk, live = Desk(), Live(machine, late, gone)
            self.is_just(desk.say(opening(machine, late, gone)), "done")
            for _ in range(24):
                moment, kind, done = any_deed(chance, machine, live.deeds)
                deed = f"{'withdraw' if done else 'hear'} {moment} {kind}"
                number = chance.below(12)
                command, call, arguments = chance.pick((
                    (deed, live.do_deed, ((moment, kind, done),)),
                    (deed, live.do_deed, ((moment, kind, done),)),
                    (deed, live.do_deed, ((moment, kind, done),)),
                    ("undo", live.undo_deed, ()), ("redo", live.redo_deed, ()),
                    (f"if {number} {deed}", live.shown_if, (number, (moment, kind, done))),
                    (f"then {number}", live.shown_then, (number,)), (f"at {moment}", live.shown_at, (moment,)),
                ))
                try:
                    wanted = call(*arguments)
                except TwinError as error:
                    self.refuses(type(error), error.at, desk.say, command)
                else:
                    if isinstance(wanted, bool):
                        wanted = "yes" if wanted else "no"
                    wanted = row_of(wanted) if isinstance(wanted, tuple) else str(wanted)
                    self.is_just(desk.say(command), wanted)
            self.asked_right(desk, live)
            self.is_just(desk.live.deeds, live.deeds)

    def test_of_the_machine(self):
        for machine, late, gone in (
            (VALVE, (0,), (0,)), (VALVE, (0, 1), ()), (LAST, (0, 1), ()), (SPUN, (2,), (0, 1)), (DOUBLE, (), (0,)),
            (RING, (), ()), ((((0,),), (4,)), (), ()), ((((1, 0), (0, 0)), (5, 5)), (1,), (0, 1)),
        ):
            desk = Desk()
            desk.say(opening(machine, late, gone))
            marks, past = withdrawn_marks(machine, late, gone), past_marks(machine, late)
            wanted = {
                "machine": machine_text(machine, late), "least": machine_text(least_machine(machine), late),
                "marks": "none" if marks is None else str(marks), "past": "none" if past is None else str(past),
                "lots": "\n".join(row_of(lot) or "-" for lot in level_lots(machine)),
            }
            for command, shown in wanted.items():
                self.is_just(desk.say(command), shown)
            try:
                table = twin_text(machine, least_twin(machine, late))
            except InvalidSize as error:
                self.refuses(InvalidSize, error.word, desk.say, "table")
            else:
                self.is_just(desk.say("table"), table)

    def test_plain_ones(self):
        desk = Desk()
        self.assertIsNone(desk.live)
        self.is_just(said(desk, OPENED, "hear 10 0", "hear 20 1", "hear 15 0"), ["done", "1 0", "0 1", "0 1"])
        self.assertIs(type(desk.live), Live)
        self.is_just(
            said(desk, "kept", "late 0", "if 1 hear 5 0", "withdraw 10 0", "marks", "undo", "deeds"),
            ["at 20 kind 1", "0 1", "3 1", "0 1", "1", "yes", "hear 10 0\nhear 20 1\nhear 15 0"],
        )
        self.is_just(
            said(desk, "redo", "redo", "deeds", "standing", "shown", "may", "alarms 0", "alarms 1", "alarms 2", "then 1"),
            ["yes", "no", "hear 10 0\nhear 20 1\nhear 15 0\nwithdraw 10 0", "at 15 kind 0\nat 20 kind 1", "0", "0 1",
             "0 0", "0 1", "none", "1"],
        )
        self.is_just(said(desk, "at 15", "at 0", "past", "lots", "machine"), ["1", "0", "none", "0", OPENED[7:]])
        self.is_just(said(desk, "if 0 withdraw 7 0", "if 3 hear 999999 0"), ["0 0", "4 1"])

    def test_none(self):
        desk = Desk()
        self.is_just(
            said(desk, "open\nmachine 1\nprompt 0\nshows 7", "kept", "standing", "deeds", "alarms 7", "lots", "undo"),
            ["done", "none", "none", "none", "none", "0", "no"],
        )
        desk.say("open\nmachine 2\nlate 1 0\nlate 0 0\nshows 0 1")
        self.is_just(said(desk, "marks", "past", "lots", "redo"), ["none", "none", "0", "no"])
        # No lot of kinds but the empty one may come late.
        desk.say("open\nmachine 3\nprompt 1 2 0\nprompt 1 0 2\nshows 0 1 2")
        self.is_just(desk.say("lots"), "-")


class FormsTest(DeskCase):
    def test_near_ones(self):
        desk = Desk()
        desk.say(OPENED)
        said(desk, "hear 10 0", "hear 20 1")
        told = said(desk, *ASKED)
        words = [
            "hear 30 0", "withdraw 10 0", "undo", "redo", "if 0 hear 5 0", "if 1 withdraw 10 0", "then 1", "at 10",
            "late 0", "alarms 1", *ASKED,
        ]
        for word in words:
            near = {
                f" {word}", f"{word} ", f"{word}\n", f"\n{word}", word.upper(), word.capitalize(), f"{word} 0",
                f"{word} x", word.replace(" ", "  "), word.replace(" ", "\t"), word[1:], f"{word}s", word + word,
                word.replace(" ", "\n"), f"{word}\r", word.replace("0", "00"), word.replace("1", "01"),
                word.replace("0", "+0"), word.replace("0", "-0"), word.replace("1", "1.0"), word.replace("1", "one"),
                word.replace("0", "00000000"), word.replace("1", "10000000"), word.rsplit(" ", 1)[0] + ".",
            }
            if " " in word:
                near |= {word.rsplit(" ", 1)[0], word.split(" ")[0], word.replace(" ", ""), word + " "}
            for command in sorted(near):
                if not re.fullmatch(FORMS, command):
                    self.is_no_command(desk, command)
        for command in (
            "", " ", "\n", "none", "done", "close", "hear", "hear 1", "withdraw 1", "if", "if 0", "if 0 hear", "if 0 undo",
            "if 0 hear 5", "if hear 5 0", "if 0 hears 5 0", "if 0 at 5 0", "if 0 0 5 0", "if 0 if 0 hear 5 0", "then", "at", "late", "alarms", "hear 5 \u0660",
            "hear \u00b2 0", "hear 1 0 0", "hear 1 -1", "then -1", "open", "Open 0", "open0\n" + OPENED[7:],
        ):
            self.is_no_command(desk, command)
        for odd in (*ODD_VALUES, 0, 1, ["hear 1 0"], ("hear", 1, 0)):
            self.is_no_command(desk, odd)
        self.is_just(said(desk, *ASKED), told)

    def test_figures(self):
        desk = Desk()
        desk.say(OPENED)
        self.is_just(desk.say("hear 999999 0"), "1 0")
        self.refuses(InvalidDeed, -1, desk.say, "hear 1000000 0")
        self.refuses(InvalidDeed, -1, desk.say, "hear 9999999 9999999")
        self.is_no_command(desk, "hear 10000000 0")
        self.refuses(InvalidMoment, -1, desk.say, "at 9999999")
        self.is_no_command(desk, "at 10000000")
        self.refuses(InvalidIndex, -1, desk.say, "then 2")
        self.refuses(InvalidIndex, -1, desk.say, "if 1 hear 5 0")
        self.refuses(InvalidKind, -1, desk.say, "late 1")
        self.refuses(InvalidKind, -1, desk.say, "late 9")
        self.refuses(InvalidReadings, -1, desk.say, "alarms 100")
        self.is_just(said(desk, "alarms 99", "then 0", "then 1", "at 999998", "deeds"), ["none", "0", "1", "0", "hear 999999 0"])

    def test_before_the_first_opening(self):
        desk = Desk()
        for command in (*ASKED, "hear 1 0", "withdraw 1 0", "undo", "redo", "if 0 hear 1 0", "then 0", "at 1", "late 0"):
            self.is_no_command(desk, command)
        for command in ("open", "open 0", "open 0\n", "open x\n" + OPENED[7:]):
            self.is_no_command(desk, command)
        for odd in ODD_VALUES:
            self.is_no_command(desk, odd)
        self.assertIsNone(desk.live)

    def test_raised_and_nothing_changed(self):
        desk = Desk()
        desk.say(OPENED)
        said(desk, "hear 10 0", "hear 20 1", "hear 30 0", "undo")
        live, told = desk.live, said(desk, *ASKED)
        for command in ("hear 10 0", "hear 15 1", "withdraw 20 1", "withdraw 9 0", "hear 40 2"):
            self.refuses(InvalidDeed, -1, desk.say, command)
        self.refuses(InvalidIndex, -1, desk.say, "if 2 hear 40 2")
        self.is_just(said(desk, *ASKED), told)
        self.assertIs(desk.live, live)
        self.is_just(said(desk, "redo", "deeds"), ["yes", "hear 10 0\nhear 20 1\nhear 30 0"])

    def test_table_too_great(self):
        desk = Desk()
        desk.say(GREAT)
        with self.assertRaises(InvalidSize):
            desk.say("table")
        self.is_just(said(desk, "shown", "marks"), ["9", "none"])


class OpeningTest(DeskCase):
    def test_second_opening(self):
        desk = Desk()
        desk.say(OPENED)
        said(desk, "hear 10 0", "hear 20 1")
        first = desk.live
        self.is_just(said(desk, OPENED, "deeds", "redo", "shown"), ["done", "none", "no", "0"])
        self.assertIsNot(desk.live, first)
        self.is_just(said(desk, "open\n" + OPENED[7:], "hear 5 0"), ["done", "1 0"])
        self.refuses(InvalidDeed, -1, desk.say, "withdraw 5 0")

    def test_openings_that_are_none(self):
        desk = Desk()
        desk.say(OPENED)
        desk.say("hear 10 0")
        live = desk.live
        for command in (
            "open 0", "open 0\n", "open", "open\n", "open 0\nmachine", "open 0\nmachine 2\nlate 1 0\nprompt 0 0\nshows 0",
            "open 0\nmachine 2\nlate 1 2\nprompt 0 0\nshows 0 1", OPENED + "\n", OPENED + " 1", OPENED.replace("open", "open "),
            OPENED.replace("open 0", "open 0 "), OPENED.replace("open 0", "open  0"), OPENED.replace("open 0", "open 00"),
            OPENED.replace("open 0", "open x"), OPENED.replace("open 0", "open -1"), OPENED.replace("open 0", "open 10000000"),
            OPENED.replace("open 0\n", "open 0 "), " " + OPENED, "\n" + OPENED, OPENED.upper(), OPENED.replace("open", "opens"),
            OPENED.replace("\n", "\n\n"), OPENED.replace("open 0", "open 0\r"),
        ):
            self.is_no_command(desk, command)
        self.refuses(InvalidLot, 0, desk.say, OPENED.replace("open 0", "open 2"))
        self.refuses(InvalidLot, 1, desk.say, OPENED.replace("open 0", "open 0 0"))
        self.refuses(InvalidLot, 2, desk.say, OPENED.replace("open 0", "open 1 0 9999999 9999999"))
        self.refuses(Refused, 1, desk.say, OPENED.replace("open 0", "open 1 0"))
        self.assertIs(desk.live, live)
        self.is_just(desk.say("deeds"), "hear 10 0")

    def test_kinds_in_any_order(self):
        desk = Desk()
        self.is_just(desk.say(opening(SPUN, (2,), (1, 0))), "done")
        self.is_just((desk.live.room.gone, desk.live.room.late, desk.live.room.machine), ((0, 1), (2,), SPUN))
        # The text is read as `read_machine` reads it: blanks tell nothing there.
        self.is_just(desk.say("open\n  machine 1 \n late 0\nshows   7"), "done")
        self.is_just(desk.say("shown"), "7")

    def test_side_by_side(self):
        one, other = Desk(), Desk()
        one.say(command=OPENED)
        self.assertIsNone(other.live)
        self.is_just(other.say(OPENED), "done")
        one.say("hear 5 0")
        self.is_just((one.say("deeds"), other.say("deeds")), ("hear 5 0", "none"))
