"""Stage 10: the desk, its deeds, its questions and what is no line (10.2 to 10.4)."""

import random
import unittest

from layfaces.desk import Desk
from layfaces.errors import LayError, NoDeed, NoLine, NoText, TooGreat
from layfaces.orders import first_order
from layfaces.texts import shown
from samples import (
    ALONE, APART, HINGED, NOUGHT, ODD, PATH, POINTS, SEVENTY, STRIP, STUCK, TAILED, TEN, TRIANGLE, full, small_stacks,
    told_brought, told_may_lay, told_numbers, told_parts,
)

QUESTIONS = ["stack", "laid", "may", "brings", "done", "counts", "told", "first"]
FIRST = "3 2: 01 02 12"


def told_word(points):
    return "".join(map(str, points)) if points else "-"


def told_list(words):
    return " ".join(words) if words else "none"


class ToldDesk:
    """The words of 10.2 and 10.3: it keeps the deeds that stand alone, and does them all again for each line."""

    def __init__(self):
        self.deeds = []

    def stands(self):
        stack, laid = TRIANGLE, []
        for kind, given in self.deeds:
            if kind == "stack":
                stack, laid = given, []
            elif kind == "lay":
                laid = laid + [given]
            elif kind == "lift":
                laid = laid[:-1]
            else:
                laid = []
        return stack, laid

    def do(self, kind, given=None):
        """What the deed answers: ok, or the name of what it is refused with."""
        stack, laid = self.stands()
        if kind == "lay":
            words = [told_word(face) for face in stack[2]]
            if given not in words:
                return "NoText"
            given = words.index(given)
            if not told_may_lay(stack, tuple(sorted(laid)), given):
                return "NoDeed"
        if kind == "lift" and not laid or kind == "back" and not self.deeds:
            return "NoDeed"
        if kind == "back":
            self.deeds.pop()
        else:
            self.deeds.append((kind, given))
        return "ok"

    def answer(self, question):
        stack, laid = self.stands()
        faces = stack[2]
        if question == "stack":
            return f"{stack[0]} {stack[1]}: " + " ".join(map(told_word, faces))
        if question == "laid":
            return told_list([told_word(faces[number]) for number in laid])
        if question == "may":
            may = [number for number in range(len(faces)) if told_may_lay(stack, tuple(sorted(laid)), number)]
            return told_list([told_word(faces[number]) for number in may])
        if question == "brings":
            return told_list([
                told_word(told_brought(stack, tuple(sorted(laid[:at])), number)) for at, number in enumerate(laid)
            ])
        if question == "done":
            return "yes" if sorted(laid) == list(range(len(faces))) else "no"
        if question == "counts":
            parts = told_parts(stack)
            return " ".join(str(sum(len(part) == many for part in parts)) for many in range(stack[1] + 1))
        if question == "told":
            return " ".join(map(str, told_numbers(stack)))
        order = first_order(stack)
        return "none" if order is None else " ".join(told_word(faces[number]) for number in order)


class Asking(unittest.TestCase):
    def said(self, desk, *lines):
        return [desk.say(line) for line in lines]

    def due(self, wanted, desk, line):
        """The line is refused with the very class, and changes nothing."""
        before = self.seen(desk)
        with self.assertRaises(LayError, msg=repr(line)) as caught:
            desk.say(line)
        self.assertIs(type(caught.exception), wanted, repr(line))
        self.assertEqual(self.seen(desk), before, repr(line))

    def seen(self, desk):
        return self.said(desk, "stack", "laid", "may", "brings", "done", "counts", "told")


class TestDeeds(Asking):
    def test_a_new_desk(self):
        desk = Desk()
        self.assertEqual(self.seen(desk), [FIRST, "none", "01 02 12", "none", "no", "1 3 3", "1 1 1"])
        self.assertEqual(desk.say("first"), "01 02 12")
        self.due(NoDeed, desk, "back")
        self.due(NoDeed, desk, "lift")

    def test_stack(self):
        desk = Desk()
        self.assertEqual(self.said(desk, "lay 01", "lay 12", "stack 4 2: 01 13"), ["ok"] * 3)
        self.assertEqual(self.seen(desk), ["4 2: 01 13", "none", "01 13", "none", "no", "1 3 2", "1 1 0"])
        self.assertEqual(self.said(desk, "back", "stack", "laid"), ["ok", FIRST, "01 12"])

    def test_the_same_stack_again_is_a_deed(self):
        desk = Desk()
        self.assertEqual(self.said(desk, "lay 02", f"stack {FIRST}", "laid", "back", "laid"), [
            "ok", "ok", "none", "ok", "02",
        ])

    def test_stack_that_is_none(self):
        desk = Desk()
        desk.say("lay 02")
        for text in (
            "", " ", "4 2: 01 13 ", " 4 2: 01 13", "4  2: 01 13", "4 2: 13 01", "x", "\n", "lay 01", "stack", "9 1: 0",
        ):
            self.due(NoText, desk, "stack " + text)
        self.assertEqual(desk.say("laid"), "02")

    def test_lay(self):
        desk = Desk()
        self.assertEqual(self.said(desk, "lay 12", "laid", "may", "brings", "done"), ["ok", "12", "01 02", "-", "no"])
        self.assertEqual(self.said(desk, "lay 01", "laid", "may", "brings"), ["ok", "12 01", "02", "- 0"])
        self.assertEqual(self.said(desk, "lay 02", "laid", "may", "brings", "done"), [
            "ok", "12 01 02", "none", "- 0 02", "yes",
        ])

    def test_lay_a_face_that_is_laid_or_may_not_be(self):
        desk = Desk()
        self.said(desk, "stack 4 2: 01 12 23", "lay 01")
        self.due(NoDeed, desk, "lay 01")
        self.due(NoDeed, desk, "lay 23")
        self.assertEqual(self.said(desk, "lay 12", "lay 23", "laid"), ["ok", "ok", "01 12 23"])
        for face in ("01", "12", "23"):
            self.due(NoDeed, desk, "lay " + face)

    def test_lay_what_is_no_face(self):
        desk = Desk()
        for word in (
            "-", "0", "1", "012", "10", "00", "03", "23", "001", "01,", "face", "FACE", "lay", "01\n", "\n", "\n01",
            "0\n1", "0-1", "~",
        ):
            self.due(NoText, desk, "lay " + word)
        desk.say("lay 01")
        self.due(NoText, desk, "lay 10")
        desk.say("stack 1 0: -")
        for word in ("0", "--", "()", "none", "01"):
            self.due(NoText, desk, "lay " + word)

    def test_lift(self):
        desk = Desk()
        self.said(desk, "lay 01", "lay 12")
        self.assertEqual(self.said(desk, "lift", "laid", "lift", "laid"), ["ok", "01", "ok", "none"])
        self.due(NoDeed, desk, "lift")
        self.assertEqual(self.said(desk, "back", "laid", "back", "laid", "lay 02", "laid"), [
            "ok", "01", "ok", "01 12", "ok", "01 12 02",
        ])

    def test_clear(self):
        desk = Desk()
        self.said(desk, "lay 01", "lay 12")
        self.assertEqual(self.said(desk, "clear", "laid", "clear", "laid"), ["ok", "none", "ok", "none"])
        self.due(NoDeed, desk, "lift")
        self.assertEqual(self.said(desk, "back", "laid", "back", "laid"), ["ok", "none", "ok", "01 12"])

    def test_clear_of_none_stands(self):
        desk = Desk()
        self.assertEqual(self.said(desk, "clear", "clear", "back", "back"), ["ok"] * 4)
        self.due(NoDeed, desk, "back")

    def test_back_till_nothing_stands(self):
        desk = Desk()
        self.said(desk, "lay 01", "stack 4 2: 01 13", "lay 13", "lift", "clear", "lay 01")
        laid = [self.said(desk, "back", "stack", "laid")[1:] for _ in range(6)]
        self.assertEqual(laid, [
            ["4 2: 01 13", "none"], ["4 2: 01 13", "none"], ["4 2: 01 13", "13"], ["4 2: 01 13", "none"],
            [FIRST, "01"], [FIRST, "none"],
        ])
        for _ in range(3):
            self.due(NoDeed, desk, "back")
        self.assertEqual(self.said(desk, "lay 02", "laid", "back", "laid"), ["ok", "02", "ok", "none"])
        self.due(NoDeed, desk, "back")

    def test_back_is_not_undone(self):
        desk = Desk()
        self.said(desk, "lay 01", "lay 12", "lay 02", "back", "back")
        self.assertEqual(self.said(desk, "laid", "back", "laid"), ["01", "ok", "none"])

    def test_what_is_refused_does_not_stand(self):
        desk = Desk()
        desk.say("lay 01")
        refused = [(NoDeed, "lay 01"), (NoText, "lay 34"), (NoText, "stack x"), (NoLine, "fold"), (NoLine, None)]
        for wanted, line in refused:
            self.due(wanted, desk, line)
        self.assertEqual(self.said(desk, "back", "laid"), ["ok", "none"])
        self.due(NoDeed, desk, "back")

    def test_questions_do_not_stand(self):
        desk = Desk()
        self.said(desk, "lay 01", *QUESTIONS)
        self.assertEqual(self.said(desk, "back", "laid"), ["ok", "none"])
        self.due(NoDeed, desk, "back")

    def test_one_face_without_points(self):
        desk = Desk()
        self.assertEqual(self.said(desk, "stack 3 0: -", "stack", "laid", "may", "brings", "done"), [
            "ok", "3 0: -", "none", "-", "none", "no",
        ])
        self.assertEqual(self.said(desk, "counts", "told", "first"), ["1", "1", "-"])
        self.assertEqual(self.said(desk, "lay -", "laid", "may", "brings", "done"), ["ok", "-", "none", "-", "yes"])
        self.due(NoDeed, desk, "lay -")


class TestQuestions(Asking):
    def test_told_below_nought(self):
        desk = Desk()
        self.assertEqual(self.said(desk, "stack 4 2: 01 23", "told", "counts", "first"), [
            "ok", "1 2 -1", "1 4 2", "none",
        ])
        self.assertEqual(self.said(desk, "lay 01", "may", "done"), ["ok", "none", "no"])

    def test_great_numbers(self):
        desk = Desk()
        desk.say("stack " + shown(SEVENTY))
        self.assertEqual(desk.say("counts"), "1 8 28 56 70")
        self.assertEqual(desk.say("told"), "1 4 10 20 35")
        self.assertEqual(len(desk.say("may").split(" ")), 70)
        for face in SEVENTY[2]:
            self.assertEqual(desk.say("lay " + told_word(face)), "ok")
        self.assertEqual(self.said(desk, "done", "may"), ["yes", "none"])
        self.assertEqual(desk.say("laid"), " ".join(told_word(face) for face in SEVENTY[2]))

    def test_first(self):
        desk = Desk()
        for stack in (NOUGHT, ALONE, POINTS, TAILED, STRIP, STUCK, HINGED, APART, PATH):
            desk.say("stack " + shown(stack))
            order = first_order(stack)
            wanted = "none" if order is None else " ".join(told_word(stack[2][number]) for number in order)
            self.assertEqual(desk.say("first"), wanted)

    def test_first_is_refused_as_first_order_is(self):
        desk = Desk()
        for stack in (TEN, SEVENTY):
            desk.say("stack " + shown(stack))
            with self.assertRaises(TooGreat) as caught:
                desk.say("first")
            self.assertEqual((caught.exception.many, caught.exception.most), (len(stack[2]), 9))
            self.due(TooGreat, desk, "first")
        self.assertEqual(self.said(desk, "back", "back", "stack"), ["ok", "ok", FIRST])

    def test_first_does_not_hang_on_what_is_laid(self):
        desk = Desk()
        self.assertEqual(self.said(desk, "lay 12", "first", "lay 01", "lay 02", "first")[1::3], ["01 02 12"] * 2)

    def test_each_small_stack_by_the_words(self):
        for stack in small_stacks(3) + small_stacks(4)[::19]:
            desk, told = Desk(), ToldDesk()
            desk.say("stack " + shown(stack))
            told.do("stack", stack)
            for face in stack[2]:
                line = "lay " + told_word(face)
                if told.do("lay", told_word(face)) == "ok":
                    self.assertEqual(desk.say(line), "ok")
                else:
                    self.due(NoDeed, desk, line)
                self.assertEqual(self.said(desk, *QUESTIONS), [told.answer(question) for question in QUESTIONS])

    def test_questions_change_nothing(self):
        desk = Desk()
        for line in ("lay 02", "stack 4 2: 01 13", "lay 13", "lay 01", "lift", "clear"):
            desk.say(line)
            before = self.said(desk, *QUESTIONS)
            self.said(desk, *QUESTIONS[::-1])
            self.assertEqual(self.said(desk, *QUESTIONS), before)


class TestLines(Asking):
    def test_blanks(self):
        desk = Desk()
        desk.say("lay 02")
        for line in QUESTIONS + ["lift", "clear", "back", "lay 12"]:
            for other in (" " + line, line + " ", line + "  ", "\n" + line, line.upper(), line.title(), line + " x"):
                self.due(NoText if other.startswith("stack ") else NoLine, desk, other)
        for line in (
            "lay", "lay ", "lay  01", "lay  ", "lay 01 12", "lay 01 ", "lay\n01", "lay\n", "lay \n ", "", " ", "\n",
            "  ",
        ):
            self.due(NoLine, desk, line)
        for line in (
            "stack\n", "stack\n4 2: 01 13", " stack 4 2: 01 13", "Stack 4 2: 01 13", "stack: 4 2: 01 13", "stacks",
        ):
            self.due(NoLine, desk, line)
        for line in ("stack ", "stack  ", "stack 4 2: 01 13 ", "stack  4 2: 01 13", "stack \n", "stack 4 2: 01 13\n"):
            self.due(NoText, desk, line)

    def test_other_words(self):
        desk = Desk()
        for line in (
            "fold", "lai 01", "layed 01", "lay01", "01", "lift 01", "clear all", "back 1", "back back", "laid 01",
            "may 01", "brings 01", "done yes", "counts 1", "told 1", "first 1", "none", "ok", "3 2: 01 02 12",
            "FACE", "-",
        ):
            self.due(NoLine, desk, line)

    def test_a_line_feed_is_a_sign_of_its_word(self):
        desk = Desk()
        for line in QUESTIONS + ["lift", "clear", "back", "lay 01"]:
            for at in range(len(line) + 1):
                other = line[:at] + "\n" + line[at:]
                self.due(NoText if other.startswith("lay ") else NoLine, desk, other)
        line = "stack 4 2: 01 13"
        for at in range(len(line) + 1):
            self.due(NoLine if at < 6 else NoText, desk, line[:at] + "\n" + line[at:])

    def test_a_blank_at_any_place(self):
        desk = Desk()
        for line in QUESTIONS[1:] + ["lift", "clear", "back", "lay 01"]:
            for at in range(len(line) + 1):
                self.due(NoLine, desk, line[:at] + " " + line[at:])

    def test_anything(self):
        desk = Desk()
        desk.say("lay 02")
        for thing in ODD + [("lift",), ["lift"], {"lift": 1}, b"lift", 0, 1, "lift" * 75]:
            self.due(NoLine, desk, thing)

    def test_no_line_comes_ahead_of_all_else(self):
        desk = Desk()
        for line in ("lift 1", "back ", "lay 99 ", "lay 99 99"):
            self.due(NoLine, desk, line)


class TestDesks(Asking):
    def test_two_desks_by_turns(self):
        one, other = Desk(), Desk()
        self.assertEqual(self.said(one, "lay 01", "laid"), ["ok", "01"])
        self.assertEqual(self.said(other, "laid", "stack 4 2: 01 13", "lay 13"), ["none", "ok", "ok"])
        self.assertEqual(self.said(one, "stack", "laid", "lay 12", "laid"), [FIRST, "01", "ok", "01 12"])
        self.assertEqual(self.said(other, "laid", "back", "back", "stack", "laid"), ["13", "ok", "ok", FIRST, "none"])
        self.due(NoDeed, other, "back")
        self.assertEqual(self.said(one, "laid", "back", "laid"), ["01 12", "ok", "01"])
        self.assertEqual(Desk().say("laid"), "none")

    def test_many_lines_by_the_words(self):
        chance = random.Random(11)
        stacks = small_stacks(3)[::5] + [TRIANGLE, PATH, TAILED, APART, STRIP, POINTS, NOUGHT, HINGED, STUCK]
        stacks.append(full(4, 2))
        found = set()
        for _ in range(25):
            desks = [(Desk(), ToldDesk()), (Desk(), ToldDesk())]
            for _ in range(60):
                desk, told = chance.choice(desks)
                kind = chance.choice(["stack"] + ["lay"] * 8 + ["lift", "clear", "back", "back"])
                found.add((kind, self.one_deed(desk, told, kind, stacks, chance)))
                question = chance.choice(QUESTIONS)
                self.assertEqual(desk.say(question), told.answer(question))
        self.assertEqual(found, {
            ("stack", "ok"), ("lay", "ok"), ("lay", "NoDeed"), ("lay", "NoText"), ("lift", "ok"), ("lift", "NoDeed"),
            ("clear", "ok"), ("back", "ok"), ("back", "NoDeed"),
        })

    def one_deed(self, desk, told, kind, stacks, chance):
        given, line = None, kind
        if kind == "stack":
            given = chance.choice(stacks)
            line = "stack " + shown(given)
        if kind == "lay":
            faces = [told_word(face) for face in told.stands()[0][2]]
            given = chance.choice(faces * 9 + ["67"])
            line = "lay " + given
        wanted = told.do(kind, given)
        try:
            answer = desk.say(line)
        except LayError as refused:
            answer = type(refused).__name__
        self.assertEqual(answer, wanted, line)
        return answer

    def test_what_is_answered_hangs_on_the_deeds_that_stand_alone(self):
        plain, winding = Desk(), Desk()
        self.said(plain, "stack 4 2: 01 13", "lay 13", "lay 01", "lift")
        self.said(winding, "lay 01", "back", "clear", "back", "stack 4 2: 01 13", "lay 01", "back", "lay 13", "lay 01",
                  "laid", "clear", "back", "lift", "lift", "back")
        self.due(NoDeed, winding, "lay 13")
        for _ in range(4):
            self.assertEqual(self.said(plain, *QUESTIONS), self.said(winding, *QUESTIONS))
            self.assertEqual((plain.say("back"), winding.say("back")), ("ok", "ok"))
        self.due(NoDeed, plain, "back")
        self.due(NoDeed, winding, "back")

    def test_a_long_history(self):
        desk = Desk()
        for _ in range(500):
            self.said(desk, "lay 01", "lay 02", "clear")
        for _ in range(1500):
            desk.say("back")
        self.due(NoDeed, desk, "back")


if __name__ == "__main__":
    unittest.main()
