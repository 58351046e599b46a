import random
import unittest

from strangersay.crowds import crowd_of, is_crowd
from strangersay.errors import NoText
from strangersay.reading import read_crowd, read_saying, read_state
from strangersay.sayings import is_saying
from strangersay.showing import show_crowd, show_saying, show_state
from strangersay.states import fresh, is_state
from tests.draws import some_history, some_saying
from tests.samples import BOTH, REST, SUM, all_states, member, nested, note, odd_things

GREAT = 10 ** 30 - 1
SIGNS = [chr(code) for code in range(32, 127) if chr(code) != "%"] + ["\n"]


def changed_texts(text):
    """The text with one sign otherwise, one more, one less, or two that changed places."""
    signs = sorted(set(" -+!0123456789abfgyn():>=\n/;") | set(text))
    for at in range(len(text) + 1):
        for sign in signs:
            yield text[:at] + sign + text[at:]
            yield text[:at] + sign + text[at + 1:]
        yield text[:at] + text[at + 1:]
        yield text[:at] + text[at:at + 2][::-1] + text[at + 2:]


class ReadingCase(unittest.TestCase):
    def refused(self, row, read, *things):
        with self.assertRaises(NoText) as caught:
            read(*things)
        self.assertEqual(caught.exception.row, row)
        self.assertIs(type(caught.exception.row), int)

    def read_or_refused(self, read, show, is_one, text):
        """What is read is written just so; all else is refused."""
        try:
            told = read(text)
        except NoText as refusal:
            self.assertEqual(refusal.row, 0)
            return False
        self.assertIs(is_one(told), True)
        self.assertEqual(show(told), text)
        return True


def deep_sayings():
    one, other = ("sum", (1, -1), 0), ("rest", (2, 0), 1, 3)
    yield nested(one, lambda core: ("not", core), 7)
    yield nested(one, lambda core: ("and", core, other), 7)
    yield nested(one, lambda core: ("or", other, core), 7)
    yield nested(one, lambda core: ("or", core, core), 7)
    yield ("and", nested(one, lambda core: ("not", ("and", other, core)), 3), one)


class ReadSayingTest(ReadingCase):
    def reads(self, saying):
        text = show_saying(saying)
        self.assertEqual(read_saying(text), saying)
        self.assertIs(is_saying(read_saying(text)), True)

    def wrong(self, *texts):
        for text in texts:
            with self.subTest(text[:80]):
                self.refused(0, read_saying, text)

    def test_by_hand(self):
        self.assertEqual(read_saying("2: 2a - 3b >= 1"), ("sum", (2, -3), 1))
        self.assertEqual(read_saying("3: -1b rest 0 of 2"), ("rest", (0, -1, 0), 0, 2))
        self.assertEqual(read_saying("1: 0 >= -20"), ("sum", (0,), -20))
        self.assertEqual(read_saying("2: (0 >= 0) or (not (9a - 9b rest 8 of 9))"),
                         ("or", ("sum", (0, 0), 0), ("not", ("rest", (9, -9), 8, 9))))

    def test_each_simple_one(self):
        for worths in ((0,), (1,), (-1,), (9,), (-9,), (0, 0), (0, 5), (5, 0), (-3, 2), (3, -2), (-1, -1),
                       (1, -2, 3, -4, 5, -6), (0, 0, 0, 0, 0, -7), (0,) * 6):
            for bound in (-20, -1, 0, 1, 20):
                self.reads(("sum", worths, bound))
            for rest, divisor in ((0, 2), (1, 2), (8, 9), (0, 9)):
                self.reads(("rest", worths, rest, divisor))

    def test_eight_within_one_another(self):
        for saying in deep_sayings():
            self.assertIs(is_saying(saying), True)
            self.reads(saying)

    def test_nine_within_one_another(self):
        for saying in deep_sayings():
            for deeper in (("not", saying), ("and", saying, ("sum", (1, 1), 1)), ("or", ("sum", (1, 1), 1), saying)):
                self.assertIs(is_saying(deeper), False)
                self.wrong(show_saying(deeper))

    def test_far_too_deep(self):
        self.wrong("1: " + "not (" * 3000 + "1a >= 1" + ")" * 3000, "1: " + "(" * 19000, "1: " + ")" * 19000,
                   "1: " + "not (" * 3900, "1: " + "((1a >= 1) and " * 1300, "1: " + "(" * 9000 + ")" * 9000,
                   "1: " + "(" * 1000 + "1a >= 1" + ") and (1a >= 1)" * 1000,
                   "1: " + "(1a >= 1) or (" * 1000 + "1a >= 1" + ")" * 1000)

    def test_six_and_seven_unlike_ones(self):
        ones = [("sum", (1,), bound) for bound in range(7)]
        six = ones[0]
        for simple in ones[1:6]:
            six = ("or", six, simple)
        self.reads(six)
        self.reads(("and", six, ones[3]))
        self.wrong(show_saying(("and", six, ones[6])), show_saying(("and", ones[6], six)))

    def test_drawn_ones(self):
        chance = random.Random(161)
        for simple_ones in list(range(1, 7)) * 20:
            saying = some_saying(chance, simple_ones=simple_ones)
            self.reads(saying)

    def test_one_sign_otherwise(self):
        read = 0
        for saying in (SUM, BOTH, ("sum", (0,), 0), ("rest", (0, -1, 0), 0, 2), ("not", ("sum", (-9, 1), -20)),
                       ("or", ("sum", (1,), 2), ("sum", (3,), 4))):
            for text in changed_texts(show_saying(saying)):
                read += self.read_or_refused(read_saying, show_saying, is_saying, text)
        self.assertGreater(read, 100)

    def test_each_sign_anywhere(self):
        text = "2: (1a >= 1) and (not (2b rest 0 of 3))"
        for at in range(len(text) + 1):
            for sign in SIGNS:
                self.read_or_refused(read_saying, show_saying, is_saying, text[:at] + sign + text[at + 1:])

    def test_blanks(self):
        self.wrong("2:2a - 3b >= 1", "2:  2a - 3b >= 1", " 2: 2a - 3b >= 1", "2: 2a - 3b >= 1 ", "2: 2a -3b >= 1",
                   "2: 2a- 3b >= 1", "2: 2a - 3b>= 1", "2: 2a - 3b >=1", "2: 2a - 3b  >= 1", "2: 2a - 3b >=  1",
                   "2: 2 a - 3b >= 1", "2: - 2a >= 1", "2: 2a - 3b >= 1\n", "\n2: 2a - 3b >= 1", "2: 1a rest 1  of 2",
                   "2: not(1a >= 1)", "2: not (1a >= 1 )", "2: not ( 1a >= 1)", "2: (1a >= 1)and (1b >= 1)",
                   "2: (1a >= 1) and(1b >= 1)", "2: (1a >= 1)  and (1b >= 1)", "2: (1a >= 1) and  (1b >= 1)",
                   "2: (1a >= 1) or (1b >= 1) ", "2: not  (1a >= 1)", "2 : 1a >= 1")

    def test_signs_and_noughts_ahead(self):
        self.wrong("2: 02a >= 1", "2: +2a >= 1", "2: 2a >= 01", "2: 2a >= +1", "2: 2a >= -0", "2: 2a - 03b >= 1",
                   "2: 2a + -3b >= 1", "2: 2a - -3b >= 1", "2: --2a >= 1", "02: 2a >= 1", "+2: 2a >= 1", "-2: 2a >= 1",
                   "2: 2a rest 01 of 3", "2: 2a rest 1 of 03", "2: 2a rest -0 of 3", "2: 2a rest +1 of 3", "2: -0 >= 1",
                   "2: 00 >= 1", "2: 0a >= 1", "2: 0a + 1b >= 1", "2: 1a + 0b >= 1", "2: 1a - 0b >= 1", "2: a >= 1",
                   "2: -a >= 1", "2: 1a + b >= 1", "2: 0 + 1b >= 1", "2: 1_0a >= 1", "2: 1a >= 1_0")

    def test_numbers_beyond_their_bounds(self):
        self.wrong("1: 10a >= 1", "1: -10a >= 1", "1: 1a >= 21", "1: 1a >= -21", "1: 1a rest 2 of 2", "1: 1a rest 0 of 1",
                   "1: 1a rest 0 of 10", "1: 1a rest -1 of 2", "1: 1a rest 0 of -2", "1: 1a rest 0 of 0", "0: 0 >= 1",
                   "7: 1a >= 1", "7: 1g >= 1", "-1: 0 >= 1", "1: 1a rest 9 of 9")
        for figures in (30, 31, 5000, 19000):
            number = "1" * figures
            self.wrong(f"{number}: 1a >= 1", f"1: {number}a >= 1", f"1: 1a >= {number}", f"1: 1a >= -{number}",
                       f"1: 1a rest {number} of 2", f"1: 1a rest 0 of {number}", f"1: 1a >= 0{number}", number)

    def test_sorts_unlike_the_letters(self):
        self.wrong("1: 1b >= 1", "2: 1a + 1c >= 1", "5: 1f >= 1", "6: 1g >= 1", "2: (1a >= 1) and (1c >= 1)")
        self.wrong("2: 1b + 1a >= 1", "2: 1a + 1a >= 1", "2: 1A >= 1", "2: 1ab >= 1", "2: 1 >= 1", "2: 1a1 >= 1",
                   "2: a1 >= 1", "2: 1b - 1a >= 1", "2: 1a + 1b + 1a >= 1", "2: 1- >= 1")
        self.assertEqual(read_saying("6: 1a >= 1"), ("sum", (1, 0, 0, 0, 0, 0), 1))

    def test_forms(self):
        self.wrong("", " ", "\n", ":", ": ", "2", "2:", "2: ", "1a >= 1", "2: 1a", "2: >= 1", "2: 1a >=", "2: 1a >= ",
                   "2: 1a > 1", "2: 1a => 1", "2: 1a <= 1", "2: 1a = 1", "2: 1a rest 1", "2: 1a rest 1 of ",
                   "2: 1a of 3", "2:  rest 1 of 3", "2: 1a rest  of 3", "2: (1a >= 1)", "2: ((1a >= 1))", "2: not 1a >= 1",
                   "2: not", "2: not ()", "2: () and ()", "2: (1a >= 1) and", "2: (1a >= 1) and (1b >= 1",
                   "2: (1a >= 1) and 1b >= 1", "2: 1a >= 1 and 1b >= 1", "2: (1a >= 1) xor (1b >= 1)",
                   "2: (1a >= 1) and (1b >= 1) and (1a >= 1)", "2: (1a >= 1) and (1b >= 1))", "2: ((1a >= 1) and (1b >= 1)",
                   "2: not (1a >= 1) and (1b >= 1)", "2: (1a >= 1) not (1b >= 1)", "2: (2: 1a >= 1) and (2: 1b >= 1)",
                   "2: 2: 1a >= 1", "2: 1a >= 1 >= 1", "2: 1a rest 1 of 2 of 3", "2: 1a rest 1 rest 1 of 2",
                   "2: 1a >= 1 rest 1 of 2", "2: Not (1a >= 1)", "2: (1a >= 1) AND (1b >= 1)", "2: )1a >= 1(",
                   "2: (1a >= 1) and (1b >= 1)\n2: 1a >= 1", "2: 1a >= 1; 1b >= 1", "2: (1a >= 1)xandx(1b >= 1)")

    def test_what_is_no_text(self):
        for thing in odd_things():
            self.refused(0, read_saying, thing)
        self.refused(0, read_saying, b"1: 1a >= 1")
        self.refused(0, read_saying, ["1: 1a >= 1"])
        self.refused(0, read_saying, ("sum", (1,), 1))


class ReadStateTest(ReadingCase):
    def wrong(self, saying, *texts):
        for text in texts:
            with self.subTest(text):
                self.refused(0, read_state, saying, text)

    def test_by_hand(self):
        self.assertEqual(read_state(SUM, "a !2y"), member((True, 2, True)))
        self.assertEqual(read_state(SUM, "b -3n"), member((False, -3, False), sort=1))
        self.assertEqual(read_state(SUM, "- !-6"), note((True, -6)))
        self.assertEqual(read_state(BOTH, "b 0y !-3n"), member((False, 0, True), (True, -3, False), sort=1))
        self.assertEqual(read_state(BOTH, "- 0 !0"), note((False, 0), (True, 0)))

    def test_every_state(self):
        for simple in (SUM, REST, ("sum", (9,) * 6, 0)):
            for state in all_states(simple):
                self.assertEqual(read_state(simple, show_state(state)), state)

    def test_drawn_states(self):
        chance = random.Random(162)
        for simple_ones in list(range(1, 7)) * 5:
            saying = some_saying(chance, simple_ones=simple_ones)
            for there in some_history(saying, chance, 20):
                for state, _ in there:
                    self.assertEqual(read_state(saying, show_state(state)), state)

    def test_one_sign_otherwise(self):
        read = 0
        for saying, state in ((SUM, member((True, 2, True))), (SUM, note((False, -5))), (BOTH, fresh(BOTH, 1)),
                              (BOTH, note((True, 1), (False, -3)))):
            for text in changed_texts(show_state(state)):
                read += self.read_or_refused(lambda written: read_state(saying, written), show_state,
                                             lambda told: is_state(saying, told), text)
        self.assertGreater(read, 50)

    def test_what_is_no_state(self):
        self.wrong(SUM, "a !2n", "a !0y", "a 4y", "a -4n", "- 0", "- 7", "- -7", "- !7", "c !2y", "g !2y", "- 2y",
                   "a 2", "a !2", "a", "-", "", " ", "a ", "- ", "a !2y !2y", "- 1 1", "a !!2y", "a ! 2y", "a 2!y",
                   "a !2Y", "A !2y", "a !2yy", "a !y", "a y", "a !2y ", " a !2y", "a  !2y", "a !2y\n", "\na !2y",
                   "aa !2y", "a !02y", "a !+2y", "a -0y", "a 00y", "- -0", "- !", "0 !2y", "member !2y", "a\n!2y",
                   "1 a !2y", "--1", "- --1", "-1", "a!2y")
        self.wrong(REST, "a 3y", "a -1n", "- -1", "- 3", "- 0", "a !1n", "a !0y")
        self.wrong(BOTH, "a !1y", "- 1", "- 0 0", "a !1y !2y !2y", "a !2y !2y", "a !1y  !2y", "a !1y !4y")

    def test_a_state_of_another_saying(self):
        self.wrong(SUM, show_state(fresh(BOTH, 0)), show_state(note((True, 1), (False, -3))))
        self.wrong(("sum", (1,), 1), "b !1y", "a !3y")

    def test_great_numbers(self):
        for figures in (3, 30, 31, 5000, 19000):
            self.wrong(SUM, f"a {'1' * figures}y", f"a !-{'1' * figures}n", f"- {'1' * figures}", f"- {'0' * figures}1")

    def test_what_is_no_text(self):
        for saying in (SUM, BOTH):
            for thing in (*odd_things(), b"a !2y", fresh(SUM, 0), ["a !2y"]):
                self.refused(0, read_state, saying, thing)


class ReadCrowdTest(ReadingCase):
    ROWS = ("12 a 0y", "1 a !2y", "3 b !-3n", "5 - -5", "2 - !0")
    CROWD = ((member((False, 0, True)), 12), (member((True, 2, True)), 1), (member((True, -3, False), sort=1), 3),
             (note((False, -5)), 5), (note((True, 0)), 2))

    def wrong(self, row, text, saying=SUM):
        with self.subTest(text[:80]):
            self.refused(row, read_crowd, saying, text)

    def test_by_hand(self):
        self.assertEqual(read_crowd(SUM, "\n".join(self.ROWS)), self.CROWD)
        self.assertEqual(read_crowd(SUM, "7 b -1y"), ((member((False, -1, True), sort=1), 7),))
        self.assertEqual(read_crowd(BOTH, "4 a !1y !2y\n5 b !1y !-3n"), crowd_of(BOTH, (4, 5)))

    def test_nobody(self):
        for saying in (SUM, REST, BOTH):
            self.assertEqual(read_crowd(saying, ""), ())

    def test_drawn_crowds(self):
        chance = random.Random(163)
        for simple_ones in list(range(1, 7)) * 5:
            saying = some_saying(chance, simple_ones=simple_ones)
            for there in some_history(saying, chance, 20):
                self.assertEqual(read_crowd(saying, show_crowd(there)), there)

    def test_a_great_text(self):
        there = tuple((state, 10 ** 29 + at) for at, state in enumerate(all_states(("sum", (9,) * 6, 5))))
        there = tuple(sorted(there))[:400]
        text = show_crowd(there)
        self.assertLess(len(text), 20000)
        self.assertEqual(read_crowd(("sum", (9,) * 6, 5), text), there)

    def test_the_first_wrong_row(self):
        for at in range(len(self.ROWS)):
            for row in ("", " ", "x", "1", "a !2y", "0 a !2y", "1 a !2n", "1  a !2y", "1 a 0y ", " 1 a 0y", "1 c !2y"):
                rows = list(self.ROWS)
                rows[at] = row
                self.wrong(at, "\n".join(rows))
                # of several the first
                self.wrong(min(at, 3), "\n".join(rows[:3] + ["x"] + rows[4:]))

    def test_states_that_dont_rise(self):
        for at in range(1, len(self.ROWS)):
            rows = list(self.ROWS)
            rows[at - 1], rows[at] = rows[at], rows[at - 1]
            self.wrong(at, "\n".join(rows))
            rows = list(self.ROWS)
            rows.insert(at, rows[at - 1])
            self.wrong(at, "\n".join(rows))
        # the same state with another many
        self.wrong(1, "1 a !2y\n2 a !2y")
        self.wrong(1, "2 a !2y\n1 a !2y")
        # what doesn't rise comes ahead of a row that is none, and behind one
        self.wrong(1, "1 a !2y\n1 a 0y\nx")
        self.wrong(1, "1 a !2y\nx\n1 a 0y")

    def test_line_feeds(self):
        text = "\n".join(self.ROWS)
        self.wrong(0, "\n" + text)
        self.wrong(5, text + "\n")
        self.wrong(0, "\n")
        self.wrong(0, "\n\n")
        self.wrong(2, "12 a 0y\n1 a !2y\n\n3 b !-3n")
        self.wrong(0, "12 a 0y; 1 a !2y")
        self.wrong(0, "-")

    def test_many(self):
        for many in (1, 9, 10, 10 ** 29, GREAT):
            self.assertEqual(read_crowd(SUM, f"{many} a 0y"), ((member((False, 0, True)), many),))
        for many in ("0", "00", "01", "-1", "-0", "+1", "", "1.", "x", "!1", "1" + "0" * 30, "9" * 31, "1" * 5000,
                     "0" * 30 + "1", "1_0"):
            self.wrong(0, f"{many} a 0y")
            self.wrong(1, f"1 a 0n\n{many} a 0y")

    def test_a_note_of_nothing_and_states_of_another_saying(self):
        self.wrong(0, "1 - 0")
        self.wrong(1, "1 a 0y\n1 - 0")
        self.wrong(0, "1 - 0 0", BOTH)
        self.wrong(0, show_crowd(crowd_of(BOTH, (4, 5))))
        self.wrong(0, "\n".join(self.ROWS), BOTH)
        self.wrong(2, "\n".join(self.ROWS), ("sum", (2,), 1))

    def test_one_sign_otherwise(self):
        read = 0
        for text in changed_texts("2 a !2y\n13 b -1n\n1 - !0"):
            try:
                told = read_crowd(SUM, text)
            except NoText as refusal:
                self.assertIn(refusal.row, range(text.count("\n") + 1))
            else:
                read += 1
                self.assertIs(is_crowd(SUM, told), True)
                self.assertEqual(show_crowd(told), text)
        self.assertGreater(read, 50)

    def test_what_is_no_text(self):
        for thing in (*odd_things(), b"", b"1 a 0y", (), [], None):
            if not isinstance(thing, str):
                self.refused(0, read_crowd, SUM, thing)


if __name__ == "__main__":
    unittest.main()
