"""Promise [28]: lines that a desk refuses, with which refusal, in which order, and that it changes nothing."""

import unittest

from helper import SIGNS, SMALL, check_refused
from pricebend import errors
from pricebend.desk import Desk

FIRST = ("word a ab", "word b ba", "word e .", "word long abcdefg", "word longer abcdefgh", "price 3 1 2",
         "word c x", "drop c", "undo", "undo")
# A line of each kind that a desk answers that was told those above.
GOOD = ("word c ab", "do a a -b", "copy a c", "drop a", "price 1 2 3", "undo", "again", "names", "show a", "at",
        "least a b", "many a b", "first a b", "by a b 0", "counts a b", "way a e b", "parts a b", "part a b",
        "corners a b 0")
NO_NAMES = ("A", "aB", "a1", "1", "0", ".", "a.", "a-b", "a_b", "abcdefghi", "a" * 9, "a" * 30, "a\n", "\n", "a\nb", "none!")
NO_WORDS = ("A", "aB", "a1", "0", "..", "a.", ".a", "a" * 13, SMALL, "a-b", "a>b", "a\n", "\n", ".\n", "\n.", "-a")
NO_FIGURES = ("00", "01", "007", "-1", "+1", "-0", "+0", "1.0", "1.", "1_0", "0x1", "1e3", "a", ".", "1\n", "\n1", "\n", "1,0",
              "1" * 40)


def told_desk():
    desk = Desk()
    for line in FIRST:
        desk.tell(line)
    return desk


def is_done(desk, line):
    try:
        return desk.tell(line) == "done"
    except errors.NothingDone:
        return False


def stands(desk):
    names = desk.tell("names")
    words = [desk.tell("show " + name) for name in names.split(" ")] if names != "none" else []
    return names, words, desk.tell("at")


def whole_row(desk):
    """How far the desk was from its first deed, and all that stands at each one; it is left where it was."""
    back = 0
    while is_done(desk, "undo"):
        back += 1
    told = [stands(desk)]
    while is_done(desk, "again"):
        told.append(stands(desk))
    for _ in range(len(told) - 1 - back):
        desk.tell("undo")
    return back, told


class OfADesk(unittest.TestCase):
    def setUp(self):
        self.desk = told_desk()
        self.row = whole_row(told_desk())

    def tearDown(self):
        # Whatever was refused, all stands as it did, also what can be undone and done again.
        self.assertEqual(whole_row(self.desk), self.row)

    def check(self, name, field, *lines):
        before = stands(self.desk)
        for line in lines:
            with self.subTest(line=line):
                check_refused(self, name, field, self.desk.tell, line)
                self.assertEqual(stands(self.desk), before)


class TheTests(OfADesk):
    def test_the_good_lines_are_answered(self):
        for line in GOOD:
            self.assertIs(type(told_desk().tell(line)), str)

    def test_there_is_something_to_undo_and_to_do_again(self):
        back, told = self.row
        self.assertEqual((back, len(told)), (6, 9))
        self.assertEqual(told[0], ("none", [], "1 1 1"))
        self.assertEqual(told[back], ("a b e long longer", ["ab", "ba", ".", "abcdefg", "abcdefgh"], "3 1 2"))
        self.assertEqual(told[-2][0], "a b c e long longer")


class NoLine(OfADesk):
    def check_none(self, *lines):
        self.check("NoLine", None, *lines)

    def test_lines_that_begin_with_no_word_of_theirs(self):
        self.check_none("", "x", "a", "Word c ab", "WORD c ab", "words", "wor c ab", "name", "none", "done", "undone",
                        "ask", "0", ".", "show-a", "shows a", "is", "n", "all a b", "number a b", "word", "do")

    def test_a_word_too_few(self):
        for line in GOOD:
            words = line.split(" ")
            for many in range(1, len(words)):
                # `do a` has no SCRIPT, but `do a a` and `do a -b` have one.
                if words[0] != "do" or many < 3:
                    self.check_none(" ".join(words[:many]))

    def test_a_word_too_many(self):
        for line in GOOD:
            if not line.startswith("do "):
                for more in ("a", "b", "0", ".", "none", "undo"):
                    self.check_none(f"{line} {more}", f"{more} {line}")
        self.check_none("undo 1", "again 2", "at 1 1 1", "names a", "undo undo", "price 1 1 1 1", "way a e b a")

    def test_a_blank_too_many_at_any_place(self):
        self.check_none(" ", "  ", "   ")
        for line in GOOD + ("do a a b", "do a a>x b>y +z", "do a none", "do nix -b"):
            self.check_none(" " + line, line + " ", " " + line + " ", line + "  ")
            for at, sign in enumerate(line):
                if sign == " ":
                    self.check_none(line[:at] + " " + line[at:], line[:at] + "  " + line[at:])

    def test_no_blank_where_one_must_be(self):
        for line in GOOD:
            words = line.split(" ")
            for at in range(1, len(words)):
                if words[0] != "do":
                    self.check_none(" ".join(words[:at - 1] + [words[at - 1] + words[at]] + words[at + 1:]))
        self.check_none("doa a -b", "do", "do ", "do a", "do a ")

    def test_the_end_of_a_line_is_a_sign_like_others(self):
        for line in GOOD:
            self.check_none("\n" + line)
            if " " in line:
                self.check_none(line.replace(" ", "\n"), line.replace(" ", "\n", 1), line.replace(" ", " \n", 1))
            if not line.startswith("do "):
                self.check_none(line + "\n")
                for at in range(len(line)):
                    self.check_none(line[:at] + "\n" + line[at:])
        self.check_none("do\na a -b", "do a\na -b", "d\no a a -b", "do \na a -b", "\n")

    def test_names_that_are_none(self):
        for name in NO_NAMES:
            self.check_none(f"word {name} ab", f"do {name} a b", f"copy {name} c", f"copy a {name}", f"drop {name}",
                            f"show {name}")
            for verb in ("least", "many", "first", "counts", "parts", "part"):
                self.check_none(f"{verb} {name} b", f"{verb} a {name}", f"{verb} {name} {name}")
            for verb in ("by", "corners"):
                self.check_none(f"{verb} {name} b 0", f"{verb} a {name} 0")
            self.check_none(f"way {name} a b", f"way a {name} b", f"way a b {name}")

    def test_each_sign_but_a_small_letter(self):
        for sign in SIGNS:
            if sign not in SMALL:
                self.check_none(f"show {sign}", f"show a{sign}", f"show {sign}a", f"show a{sign}b", f"word {sign} ab",
                                f"word c a{sign}", f"word c {sign}a", f"word c a{sign}b")
                if sign != ".":
                    self.check_none(f"word c {sign}")

    def test_words_that_are_none(self):
        for word in NO_WORDS:
            self.check_none(f"word c {word}", f"word a {word}")

    def test_numbers_that_are_none(self):
        for figures in NO_FIGURES:
            self.check_none(f"price {figures} 1 1", f"price 1 {figures} 1", f"price 1 1 {figures}",
                            f"price {figures} {figures} {figures}", f"by a b {figures}", f"corners a b {figures}")

    def test_each_sign_but_a_figure(self):
        for sign in SIGNS:
            if sign not in "0123456789":
                for figures in (sign, "1" + sign, sign + "1", "1" + sign + "1"):
                    self.check_none(f"price {figures} 1 1", f"price 1 1 {figures}", f"by a b {figures}",
                                    f"corners a b {figures}")

    def test_a_figure_too_many(self):
        for figures in ("1" + "0" * 12, "9" * 13, "1" * 20):
            self.check_none(f"price {figures} 1 1", f"price 1 {figures} 1", f"price 1 1 {figures}")
        for figures in ("1" + "0" * 9, "9" * 10, "1" * 12, "0" * 9, "0" * 10):
            self.check_none(f"by a b {figures}", f"corners a b {figures}")
        for figures in ("0" * 12, "0" + "1" * 11):
            self.check_none(f"price {figures} 1 1", f"price 1 {figures} 1", f"price 1 1 {figures}")


class NoName(OfADesk):
    def test_no_word_stands_under_the_name(self):
        for name in ("x", "c", "abcdefgh", "word", "none", "aa", "lon"):
            self.check("NoName", name, f"do {name} a b", f"copy {name} a", f"drop {name}", f"show {name}",
                       f"least {name} a", f"least a {name}", f"many {name} a", f"many a {name}", f"first {name} a",
                       f"first a {name}", f"by {name} a 0", f"by a {name} 0", f"counts {name} a", f"counts a {name}",
                       f"way {name} a b", f"way a {name} b", f"way a b {name}", f"parts {name} a", f"parts a {name}",
                       f"part {name} a", f"part a {name}", f"corners {name} a 0", f"corners a {name} 0",
                       f"copy {name} {name}")

    def test_the_first_name_in_the_line_is_told(self):
        self.check("NoName", "x", "least x y", "way x y z", "way a x y", "way x a y", "by x y 0", "corners x y 0",
                   "copy x y", "way x x x", "parts x y", "least x x")
        self.check("NoName", "y", "least a y", "way a b y", "by b y 0", "least y x")

    def test_names_that_need_not_stand_for_a_word(self):
        self.assertEqual(told_desk().tell("word x ab"), "ab")
        self.assertEqual(told_desk().tell("copy a x"), "ab")

    def test_a_name_that_was_dropped_or_undone(self):
        desk = told_desk()
        desk.tell("drop a")
        check_refused(self, "NoName", "a", desk.tell, "show a")
        check_refused(self, "NoName", "a", desk.tell, "drop a")
        desk.tell("undo")
        self.assertEqual(desk.tell("show a"), "ab")
        desk.tell("again")
        check_refused(self, "NoName", "a", desk.tell, "show a")


class OfScripts(OfADesk):
    def test_no_scripts_text(self):
        for text in ("x>", ">x", "a>a", "a>A", "A", "-A", "+", "-", "ab", "a b none", "none a", "None", "a-b", "1", ".", "a\n",
                     "a\nb", "\n", "a b\n", "a \nb", "a\n b", "a>b>c", "--a", "a,b", "a;b"):
            self.check("NoText", None, f"do a {text}", f"do e {text}")
        self.check("NoText", None, "do e " + " ".join(["+a"] * 13), "do a a b" + " +a" * 11)

    def test_a_script_of_another_word(self):
        self.check("NotOn", "ab", "do a none", "do a b a", "do a a", "do a -b", "do a a b -c", "do a +a", "do a a>x c")
        self.check("NotOn", "", "do e a", "do e -a", "do e a>b", "do e +a -b")
        self.check("NotOn", "abcdefg", "do long none", "do long a b c d e f")


class NoPrice(OfADesk):
    def test_all_0(self):
        self.check("NoPrice", None, "price 0 0 0")

    def test_numbers_with_some_0(self):
        for line in ("price 0 0 1", "price 0 1 0", "price 1 0 0", "price 0 1 1"):
            self.assertEqual(told_desk().tell(line), line[6:])


class OfPartings(OfADesk):
    def test_words_that_are_too_long(self):
        for verb, behind in (("parts", ""), ("part", ""), ("corners", " 0"), ("corners", " 99")):
            self.check("TooLong", 7, f"{verb} long a{behind}", f"{verb} a long{behind}", f"{verb} long longer{behind}",
                       f"{verb} long long{behind}", f"{verb} e long{behind}")
            self.check("TooLong", 8, f"{verb} longer long{behind}", f"{verb} b longer{behind}")

    def test_other_questions_take_long_words(self):
        for line in ("least long a", "many long longer", "first long longer", "by long longer 0", "counts a long",
                     "way long a longer"):
            self.assertIs(type(told_desk().tell(line)), str)

    def test_the_number_of_no_part(self):
        self.assertEqual(self.desk.tell("parts a b"), "0 2 2; 2 0 0")
        for number in (2, 3, 10, 999999999):
            self.check("NoNumber", number, f"corners a b {number}")
        self.check("NoNumber", 1, "corners a a 1", "corners e e 1", "corners e a 1")


class OfScriptsByNumber(OfADesk):
    def test_the_number_of_no_script(self):
        self.assertEqual(self.desk.tell("many a b"), "3")
        for number in (3, 4, 10, 999999999):
            self.check("NoNumber", number, f"by a b {number}", f"by e e {number}")
        self.check("NoNumber", 1, "by e e 1", "by a a 1", "by e long 1")
        self.check("NoNumber", 100000000, "by long longer 100000000")


class NothingDone(unittest.TestCase):
    def test_at_a_new_desk(self):
        desk = Desk()
        for _ in range(2):
            for line in ("undo", "again"):
                check_refused(self, "NothingDone", None, desk.tell, line)
        self.assertEqual(whole_row(desk), (0, [("none", [], "1 1 1")]))

    def test_beyond_the_first_and_the_last_deed(self):
        desk = told_desk()
        row = whole_row(told_desk())[1]
        check_refused(self, "NothingDone", None, told_desk_at_its_end().tell, "again")
        for _ in range(6):
            desk.tell("undo")
        for _ in range(3):
            check_refused(self, "NothingDone", None, desk.tell, "undo")
        self.assertEqual(whole_row(desk), (0, row))

    def test_what_is_refused_is_nothing_to_undo(self):
        desk = Desk()
        for line in ("price 0 0 0", "word a " + "a" * 13, "drop a", "copy a b", "do a none", "word  a b", "least a b"):
            with self.assertRaises(errors.BendError):
                desk.tell(line)
        check_refused(self, "NothingDone", None, desk.tell, "undo")

    def test_what_is_refused_forgets_nothing_that_was_undone(self):
        desk = Desk()
        desk.tell("word a ab")
        desk.tell("price 1 2 3")
        desk.tell("undo")
        for line in ("price 0 0 0", "do a b", "do a x>", "drop b", "copy b a", "word a A", "again again", "by a a 7"):
            with self.assertRaises(errors.BendError):
                desk.tell(line)
        self.assertEqual(desk.tell("again"), "done")
        self.assertEqual(desk.tell("at"), "1 2 3")


def told_desk_at_its_end():
    desk = told_desk()
    while is_done(desk, "again"):
        pass
    return desk


class TheFirstThatIsDue(OfADesk):
    def test_no_line_ahead_of_all(self):
        self.check("NoLine", None, "least x y z", "least x", "by x y 01", "by x y 1000000000", "copy x Y", "do x", "do x ",
                   "do x  a>", "way x y", "corners long longer 00", "price 0 0 00", "price 0 0 0 0", "undo x", "do a x>  y",
                   "do a b ", "word x A", "corners x y z", "by a x -1", "do X x>", "drop x y")

    def test_no_name_ahead_of_what_follows(self):
        self.check("NoName", "x", "do x x>", "do x none", "by x a 999999999", "by a x 999999999", "corners x long 9",
                   "corners long x 9", "parts long x", "part x longer", "do x a\nb")

    def test_no_text_ahead_of_a_script_of_another_word(self):
        self.check("NoText", None, "do a b x>", "do e a >", "do a -b none")

    def test_too_long_ahead_of_no_number(self):
        self.check("TooLong", 7, "corners long a 999999999", "corners a long 5")

    def test_nothing_done_only_where_the_line_is_one(self):
        desk = Desk()
        check_refused(self, "NoLine", None, desk.tell, "undo ")
        check_refused(self, "NoLine", None, desk.tell, "again a")
        check_refused(self, "NothingDone", None, desk.tell, "again")


if __name__ == "__main__":
    unittest.main()
