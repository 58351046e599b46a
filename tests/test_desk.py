import random
import reprlib
import unittest

from strangersay import errors
from strangersay.desk import Desk
from strangersay.houses import MOST, House
from strangersay.measures import measures
from strangersay.sayings import simples
from strangersay.showing import show_crowd, show_saying, show_state
from strangersay.states import fresh
from strangersay.sums import sums
from tests.draws import individuals, members_in, some_saying
from tests.samples import BOTH, SUM, member, nested, note, odd_things

ASKED = ("crowd", "counts", "sums", "measures", "words", "true", "calm", "saying")
UP, DOWN = fresh(SUM, 0), fresh(SUM, 1)
SIGNS = [chr(code) for code in range(32, 127) if chr(code) != "%"] + ["\n"]


def answers(desk):
    return tuple(desk.say(line) for line in ASKED)


def expected(saying, house):
    """What a desk answers to all that is asked, by a house."""
    there = house.crowd()
    return ("; ".join(show_crowd(there).split("\n")) if there else "-",
            " ".join(map(str, house.counts())), " ".join(map(str, sums(saying, there))),
            " ".join(map(str, measures(saying, there))), " ".join(map(str, house.words())),
            "yes" if house.is_true() else "no", "yes" if house.is_calm() else "no", show_saying(saying))


class DeskCase(unittest.TestCase):
    def desk(self, *lines, saying=SUM):
        desk = Desk(show_saying(saying))
        for line in lines:
            self.assertEqual(desk.say(line), "done")
        return desk

    def refused(self, desk, error, line):
        """It is refused so, and nothing is changed; tells the refusal."""
        ahead = answers(desk)
        with self.assertRaises(getattr(errors, error)) as caught:
            desk.say(line)
        self.assertIs(type(caught.exception), getattr(errors, error))
        self.assertEqual(answers(desk), ahead)
        return caught.exception

    def no_line(self, desk, *lines):
        for line in lines:
            with self.subTest(reprlib.repr(line)):
                self.refused(desk, "NoLine", line)


class DeskTest(DeskCase):
    def test_no_saying(self):
        for thing in (*odd_things(), "2:2a >= 1", "1: 1b >= 1", "x", "1: 1a >= 1\n", b"1: 1a >= 1", SUM):
            with self.assertRaises(errors.NoText) as caught:
                Desk(thing)
            self.assertEqual(caught.exception.row, 0)

    def test_as_it_begins(self):
        self.assertEqual(answers(self.desk()), ("-", "0 0", "0", "0", "0 0", "no", "yes", "2: 2a - 3b >= 1"))
        self.assertEqual(answers(self.desk(saying=BOTH)),
                         ("-", "0 0", "0 0", "0 0", "0 0", "no", "yes", show_saying(BOTH)))
        self.assertEqual(self.desk(saying=("sum", (1,), 0)).say("true"), "yes")

    def test_come(self):
        desk = self.desk("come a 3", "come b 2")
        self.assertEqual(answers(desk), ("3 a !2y; 2 b !-3n", "3 2", "0", "16", "3 2", "no", "no", "2: 2a - 3b >= 1"))

    def test_leave(self):
        desk = self.desk("come a 3", "come b 2", "leave 2 a !2y")
        self.assertEqual(answers(desk)[:5], ("1 a !2y; 2 b !-3n; 2 - !0", "1 2", "-4", "18", "1 2"))
        self.assertEqual(self.desk("come a 1", "leave 1 a !2y").say("crowd"), "1 - !0")

    def test_turn(self):
        desk = self.desk("come a 3", "turn b 2 a !2y")
        self.assertEqual(answers(desk)[:5], ("1 a !2y; 2 b !2y; 2 - -5", "1 2", "-4", "28", "3 0"))

    def test_meet(self):
        desk = self.desk("come a 3", "come b 2", "meet 2 a !2y / b !-3n")
        self.assertEqual(answers(desk)[:5], ("2 a !-1n; 1 a !2y; 2 b 0n", "3 2", "0", "8", "1 4"))
        desk = self.desk("come a 1", "turn b 1 a !2y", "meet 1 - -5 / b !2y")
        self.assertEqual(answers(desk)[0], "1 b !-3n")
        self.assertEqual(answers(desk)[5:7], ("no", "yes"))

    def test_back(self):
        desk = self.desk("come a 3")
        ahead = answers(desk)
        for line in ("come b 2", "leave 1 a !2y", "turn b 1 a !2y", "meet 1 a !2y / a !2y"):
            self.assertEqual(desk.say(line), "done")
            self.assertNotEqual(answers(desk), ahead)
            self.assertEqual(desk.say("back"), "done")
            self.assertEqual(answers(desk), ahead)
        self.assertEqual(desk.say("back"), "done")
        self.assertEqual(desk.say("crowd"), "-")
        self.refused(desk, "NoBack", "back")

    def test_calm_and_true(self):
        desk = self.desk("come a 1")
        self.assertEqual((desk.say("true"), desk.say("calm"), desk.say("words")), ("yes", "yes", "1 0"))
        desk = self.desk("come b 1")
        self.assertEqual((desk.say("true"), desk.say("calm"), desk.say("words")), ("no", "yes", "0 1"))

    def test_great_numbers(self):
        desk = self.desk(f"come a {MOST}")
        self.assertEqual(desk.say("counts"), "1000000 0")
        self.refused(desk, "Full", "come a 1")

    def test_two_beside_one_another(self):
        first, second = self.desk("come a 1"), self.desk("come b 1")
        first.say("come a 1")
        self.assertEqual((first.say("counts"), second.say("counts")), ("2 0", "0 1"))


class RefusedTest(DeskCase):
    def test_as_the_house_refuses(self):
        desk = self.desk("come a 3", "come b 2")
        self.refused(desk, "Full", f"come a {MOST}")
        self.refused(desk, "Full", f"come a {'9' * 30}")
        self.assertEqual(self.refused(desk, "NoOne", "leave 4 a !2y").member, UP)
        self.assertEqual(self.refused(desk, "NoOne", "leave 1 a 0y").member, member((False, 0, True)))
        self.assertEqual(self.refused(desk, "NoOne", "turn a 3 b !-3n").member, DOWN)
        self.assertEqual(self.refused(desk, "NoMeeting", "meet 3 a !2y / b !-3n").at, 0)
        self.assertEqual(self.refused(desk, "NoMeeting", "meet 1 a !2y / - 4").at, 0)
        self.assertEqual(self.refused(desk, "NoState", "leave 1 - 4").thing, note((False, 4)))
        self.assertEqual(self.refused(desk, "NoState", "turn a 1 - !4").thing, note((True, 4)))
        self.refused(self.desk(), "NoBack", "back")

    def test_no_line_comes_ahead_of_all(self):
        desk = self.desk("come a 3")
        self.no_line(desk, f"come c {MOST}", f"come a {'9' * 31}", "leave 0 a 0y", "leave 9 a 9y", "leave 0 - 4",
                     "turn c 1 - 4", "turn a 0 - 4", "meet 0 a 0y / a 0y", "meet 9 a 0y / a 9y", "back 1")
        self.no_line(self.desk(), "back ", " back")

    def test_blanks(self):
        desk = self.desk("come a 3", "come b 3")
        lines = ("come a 1", "leave 1 a !2y", "turn b 1 a !2y", "meet 1 a !2y / b !-3n", "back", *ASKED)
        for line in lines:
            self.no_line(desk, line + " ", " " + line, line + "\n", "\n" + line, line + ";", line.upper(), line + line)
            for at, sign in enumerate(line):
                if sign == " ":
                    self.no_line(desk, line[:at] + line[at + 1:], line[:at] + "  " + line[at + 1:],
                                 line[:at] + "\n" + line[at + 1:], line[:at] + "\t" + line[at + 1:])
        for line in lines:
            self.assertEqual(desk.say(line) == "done", line not in ASKED)

    def test_letters(self):
        desk = self.desk("come a 3")
        self.no_line(desk, "come c 1", "come f 1", "come g 1", "come A 1", "come 0 1", "come - 1", "come ab 1",
                     "come  1", "turn c 1 a !2y", "turn f 1 a !2y", "turn - 1 a !2y", "turn 1 1 a !2y")
        six = self.desk("come f 1", saying=("sum", (1,) * 6, 1))
        self.assertEqual(six.say("counts"), "0 0 0 0 0 1")
        self.no_line(self.desk(saying=("sum", (1,), 1)), "come b 1")

    def test_numbers(self):
        desk = self.desk("come a 3", "come b 3")
        for number in ("0", "01", "00", "-1", "-0", "+1", "", "x", "1.", "1" * 31, "0" * 30 + "1", "1" * 5000, "1_0", "!1"):
            self.no_line(desk, f"come a {number}", f"leave {number} a !2y", f"turn b {number} a !2y",
                         f"meet {number} a !2y / b !-3n")

    def test_states(self):
        desk = self.desk("come a 3", "come b 3")
        for state in ("", "a", "a !2n", "a 9y", "c !2y", "a !2y !2y", "- 0", "- 7", "- !2y", "a !02y", "a  !2y", "!2y",
                      show_state(fresh(BOTH, 0)), "3 a !2y", "/", "a !2y /"):
            self.no_line(desk, f"leave 1 {state}", f"turn b 1 {state}", f"meet 1 {state} / b !-3n",
                         f"meet 1 b !-3n / {state}")

    def test_forms(self):
        desk = self.desk("come a 3", "come b 3")
        self.no_line(desk, "", " ", "\n", "come", "come a", "come 1 a", "come a 1 1", "come a 1 b 1", "leave", "leave 1",
                     "leave a !2y", "leave a !2y 1", "turn b 1", "turn 1 b a !2y", "turn b a !2y", "turn a !2y", "turn",
                     "meet", "meet 1", "meet 1 a !2y", "meet 1 a !2y b !-3n", "meet 1 a !2y /b !-3n",
                     "meet 1 a !2y/ b !-3n", "meet 1 a !2y / b !-3n / a !2y", "meet a !2y / b !-3n", "meet 1 / b !-3n",
                     "meet 1 a !2y / ", "meet 1 a !2y // b !-3n", "back back", "crowd crowd", "do", "do ()", "spent",
                     "deeds", "measure", "is_true", "is_calm", "trial", "trials", "word", "none", "done", "yes", "-",
                     "crowd; counts", "crowd\ncounts", "Crowd", "come a 1\ncome a 1", "come a 1; come a 1", "true false",
                     "text", "house", "say", "quit")

    def test_what_is_no_text(self):
        desk = self.desk("come a 3")
        self.no_line(desk, *[thing for thing in odd_things() if not isinstance(thing, str)])
        self.no_line(desk, b"crowd", ("crowd",), ["crowd"], ("come", 0, 1), None, 0, nested("crowd", lambda core: (core,), 30))

    def test_one_sign_otherwise(self):
        desk = self.desk("come a 3", "come b 3")
        heard = 0
        for line in ("come a 1", "leave 1 a !2y", "turn b 1 a !2y", "meet 1 a !2y / b !-3n", "back", *ASKED):
            for at in range(len(line) + 1):
                for sign in SIGNS:
                    for other in (line[:at] + sign + line[at + 1:], line[:at] + sign + line[at:]):
                        heard += self.is_heard(desk, other)
        self.assertGreater(heard, 100)

    def is_heard(self, desk, line):
        """Whether it is a line, be it refused; what is done is taken back."""
        try:
            told = desk.say(line)
        except errors.NoLine:
            return False
        except (errors.Full, errors.NoOne, errors.NoMeeting, errors.NoState):
            return True
        if told == "done" and line != "back":
            self.assertEqual(desk.say("back"), "done")
        elif told == "done":
            desk.say("come b 3")
        return True


class DrawnTest(DeskCase):
    def test_against_a_house_done_the_same(self):
        chance = random.Random(171)
        refused = 0
        for simple_ones in list(range(1, 7)) * 6:
            saying = some_saying(chance, simple_ones=simple_ones)
            desk, house = Desk(show_saying(saying)), House(saying)
            for _ in range(30):
                line, deed = self.drawn_deed(saying, house, chance)
                refused += self.same(desk, house, line, deed)
                self.assertEqual(answers(desk), expected(saying, house))
        self.assertGreater(refused, 50)

    def same(self, desk, house, line, deed):
        """Both do it, or both refuse it alike; whether they refused."""
        try:
            deed()
        except errors.CrowdError as refusal:
            self.assertEqual(vars(self.refused(desk, type(refusal).__name__, line)), vars(refusal))
            return True
        self.assertEqual(desk.say(line), "done")
        return False

    def drawn_deed(self, saying, house, chance):
        """A line, and the same as a deed of the house."""
        sorts = len(simples(saying)[0][1])
        sort, many = chance.randrange(sorts), chance.randint(1, 3)
        everybody = individuals(house.crowd())
        deed = chance.choice(("come", "come", "leave", "turn", "meet", "meet", "meet", "back"))
        if deed == "back":
            return "back", house.back
        if deed == "come" or not members_in(house.crowd()):
            return f"come {'abcdef'[sort]} {many}", lambda: house.come(sort, many=many)
        one, other = chance.choice(everybody), chance.choice(everybody)
        if deed == "leave":
            return f"leave {many} {show_state(one)}", lambda: house.leave(one, many=many)
        if deed == "turn":
            return f"turn {'abcdef'[sort]} {many} {show_state(one)}", lambda: house.turn(one, sort, many=many)
        return (f"meet {many} {show_state(one)} / {show_state(other)}", lambda: house.meet(one, other, times=many))


if __name__ == "__main__":
    unittest.main()
