"""Promises [26] to [28]: a desk that is told lines, in ordinary use and at the edges that the document names."""

import random
import re
import unittest

from helper import OF_A_FIELD, check_refused, some_word
from pricebend import errors
from pricebend.counted import how_many, script_by
from pricebend.desk import Desk
from pricebend.parting import part_at, parted
from pricebend.prices import price_of
from pricebend.scripts import counts_of, done_on
from pricebend.table import first_script, least_cost
from pricebend.texts import read_script, script_text

NAME = "[a-z]{1,8}"
WORD = r"\.|[a-z]{1,12}"
TWELVE = "0|[1-9][0-9]{0,11}"
NINE = "0|[1-9][0-9]{0,8}"
SCRIPT = "[^ ]+(?: [^ ]+)*"
# Of each line what stands behind its first word: N a name that stands for a word, F one that need not.
FORMS = {"word": "FW", "do": "NS", "copy": "NF", "drop": "N", "price": "PPP", "undo": "", "again": "", "names": "",
         "show": "N", "at": "", "least": "NN", "many": "NN", "first": "NN", "by": "NN#", "counts": "NN", "way": "NNN",
         "parts": "NN", "part": "NN", "corners": "NN#"}
SIGNS_OF = {"N": NAME, "F": NAME, "W": WORD, "S": SCRIPT, "P": TWELVE, "#": NINE}
DEEDS = ("word", "do", "copy", "drop", "price")
QUESTIONS = ("names", "show", "at", "least", "many", "first", "by", "counts", "way", "parts", "part", "corners")


def shown(word):
    return word or "."


def spaced(numbers):
    return " ".join(map(str, numbers))


class Refused(Exception):
    """The refusal that a line is due, by the name of its class and its field."""


class Model:
    """A desk that keeps all that ever stood in one row, and where it stands in it."""

    def __init__(self):
        self.row = [({}, (1, 1, 1))]
        self.at = 0

    def tell(self, line):
        verb = line.partition(" ")[0]
        if verb not in FORMS:
            raise Refused("NoLine", None)
        form = FORMS[verb]
        found = re.fullmatch(verb + "".join(f" ({SIGNS_OF[kind]})" for kind in form), line)
        if found is None:
            raise Refused("NoLine", None)
        words, price = self.row[self.at]
        handed = []
        for kind, text in zip(form, found.groups()):
            if kind == "N" and text not in words:
                raise Refused("NoName", text)
            handed.append(words[text] if kind == "N" else int(text) if kind in "P#" else text)
        if verb in DEEDS:
            return self.deed(verb, found.groups(), handed, dict(words), price)
        if verb in ("undo", "again"):
            return self.move(-1 if verb == "undo" else 1)
        return self.question(verb, handed, words, price)

    def move(self, by):
        if not 0 <= self.at + by < len(self.row):
            raise Refused("NothingDone", None)
        self.at += by
        return "done"

    def deed(self, verb, texts, handed, words, price):
        answer = None
        if verb == "drop":
            del words[texts[0]]
            answer = " ".join(sorted(words)) or "none"
        elif verb == "price":
            price = price_of(*handed)
            answer = spaced(price)
        elif verb == "copy":
            words[texts[1]] = handed[0]
            answer = shown(handed[0])
        else:
            word = done_on(read_script(texts[1]), handed[0]) if verb == "do" else texts[1].replace(".", "")
            words[texts[0]] = word
            answer = shown(word)
        self.row[self.at + 1:] = [(words, price)]
        self.at += 1
        return answer

    def question(self, verb, handed, words, price):
        if verb == "names":
            return " ".join(sorted(words)) or "none"
        if verb in ("show", "at"):
            return shown(handed[0]) if handed else spaced(price)
        if verb == "way":
            one, middle, other = handed
            costs = [least_cost(*ends, price) for ends in ((one, other), (one, middle), (middle, other))]
            return f"{costs[0]} {costs[1] + costs[2]}"
        return self.between(verb, handed, price)

    def between(self, verb, handed, price):
        one, other = handed[:2]
        if verb == "by":
            return script_text(script_by(one, other, price, handed[2]))
        if verb in ("least", "many"):
            return str({"least": least_cost, "many": how_many}[verb](one, other, price))
        if verb in ("first", "counts"):
            script = first_script(one, other, price)
            return script_text(script) if verb == "first" else spaced(counts_of(script))
        parts = parted(one, other)
        if verb == "part":
            return str(part_at(parts, price))
        if verb == "parts":
            return "; ".join(spaced(part[0]) for part in parts)
        if handed[2] not in range(len(parts)):
            raise Refused("NoNumber", handed[2])
        return "; ".join(spaced(corner) for corner in parts[handed[2]][2])


def heard(desk, line):
    """The answer, or the refusal's class and field."""
    try:
        return desk.tell(line)
    except errors.BendError as refusal:
        name = type(refusal).__name__
        return name, getattr(refusal, OF_A_FIELD[name]) if name in OF_A_FIELD else None
    except Refused as refusal:
        return refusal.args


def all_that_stands(desk):
    names = desk.tell("names").replace("none", "").split()
    return desk.tell("names"), [desk.tell("show " + name) for name in names], desk.tell("at")


def whole_row(desk):
    """All that stands at each deed, from the first to the last one; the desk is left at the last one."""
    while heard(desk, "undo") == "done":
        pass
    told = [all_that_stands(desk)]
    while heard(desk, "again") == "done":
        told.append(all_that_stands(desk))
    return told


def desk_after(*lines):
    desk = Desk()
    for line in lines:
        desk.tell(line)
    return desk


class OfADesk(unittest.TestCase):
    def check(self, *told, desk=None):
        """Each line, of a tuple (line, answer), is answered so, one behind the other."""
        desk = desk or Desk()
        for line, answer in told:
            self.assertEqual(desk.tell(line), answer, line)
        return desk


class Deeds(OfADesk):
    def test_a_new_desk(self):
        self.check(("names", "none"), ("at", "1 1 1"), ("names", "none"))

    def test_word(self):
        self.check(("word a abc", "abc"), ("show a", "abc"), ("word a cba", "cba"), ("show a", "cba"), ("names", "a"),
                   ("word b .", "."), ("show b", "."), ("names", "a b"), ("word b " + "z" * 12, "z" * 12))

    def test_do(self):
        self.check(("word a abd", "abd"), ("do a a b>c -d +e", "ace"), ("show a", "ace"), ("do a -a -c -e", "."),
                   ("do a none", "."), ("do a +x", "x"), ("do a x", "x"), ("do a x>n", "n"), ("names", "a"))

    def test_copy(self):
        self.check(("word a abc", "abc"), ("copy a b", "abc"), ("word a x", "x"), ("show b", "abc"), ("copy a b", "x"),
                   ("names", "a b"), ("word c .", "."), ("copy c b", "."), ("show b", "."), ("show a", "x"))

    def test_copy_of_a_name_to_itself(self):
        desk = self.check(("word a abc", "abc"), ("copy a a", "abc"), ("show a", "abc"), ("names", "a"))
        self.check(("undo", "done"), ("show a", "abc"), ("undo", "done"), ("names", "none"), desk=desk)

    def test_drop(self):
        self.check(("word b x", "x"), ("word a y", "y"), ("word c z", "z"), ("drop b", "a c"), ("names", "a c"),
                   ("drop a", "c"), ("drop c", "none"), ("names", "none"), ("word a q", "q"), ("names", "a"))

    def test_price(self):
        self.check(("price 2 4 6", "1 2 3"), ("at", "1 2 3"), ("price 0 0 7", "0 0 1"), ("at", "0 0 1"),
                   ("price 9 3 2", "9 3 2"), ("price 0 5 0", "0 1 0"), ("price 1 1 1", "1 1 1"))

    def test_undo_and_again(self):
        self.check(("word a abc", "abc"), ("price 3 1 2", "3 1 2"), ("do a -a b c", "bc"), ("undo", "done"),
                   ("show a", "abc"), ("at", "3 1 2"), ("undo", "done"), ("at", "1 1 1"), ("again", "done"),
                   ("at", "3 1 2"), ("again", "done"), ("show a", "bc"), ("undo", "done"), ("undo", "done"),
                   ("undo", "done"), ("names", "none"), ("again", "done"), ("show a", "abc"), ("at", "1 1 1"))

    def test_undo_of_each_deed(self):
        first = ("word a abc", "word b .", "price 5 1 2")
        for line in ("word a x", "word c x", "do a a -b c", "copy a b", "copy a c", "drop a", "price 1 2 3"):
            desk = desk_after(*first)
            before = all_that_stands(desk)
            desk.tell(line)
            after = all_that_stands(desk)
            self.assertNotEqual(after, before)
            for _ in range(3):
                self.assertEqual(desk.tell("undo"), "done")
                self.assertEqual(all_that_stands(desk), before)
                self.assertEqual(desk.tell("again"), "done")
                self.assertEqual(all_that_stands(desk), after)

    def test_a_deed_forgets_all_that_were_undone(self):
        for line in ("word a x", "do a a b", "copy a a", "copy a c", "drop a", "price 1 1 1", "word a ab"):
            desk = desk_after("word a ab", "word b x", "price 2 1 1", "undo", "undo")
            desk.tell(line)
            check_refused(self, "NothingDone", None, desk.tell, "again")
            self.assertEqual(desk.tell("undo"), "done")
            self.assertEqual(all_that_stands(desk), ("a", ["ab"], "1 1 1"))
            self.assertEqual([heard(desk, "again"), heard(desk, "again")], ["done", ("NothingDone", None)])

    def test_a_deed_that_leaves_all_as_it_was_is_undone_too(self):
        for line in ("word a ab", "do a a b", "copy a a", "copy a b", "price 1 1 1", "price 7 7 7"):
            desk = desk_after("word a ab", "word b ab")
            before = all_that_stands(desk)
            desk.tell(line)
            self.assertEqual(all_that_stands(desk), before)
            desk.tell("undo")
            self.assertEqual(all_that_stands(desk), before, line)
            desk.tell("undo")
            self.assertEqual(desk.tell("names"), "a")
            self.assertEqual([heard(desk, "again") for _ in range(3)], ["done", "done", ("NothingDone", None)])

    def test_undo_and_again_many_times_in_a_row(self):
        desk = Desk()
        lines = [f"word {name} {word}" for name in ("a", "b", "abcdefgh") for word in ("x", "yy", ".", "zzz")]
        lines += ["price 1 2 3", "copy a c", "drop b", "do a z z>y -z", "price 0 0 9"]
        stood = [all_that_stands(desk)]
        for line in lines:
            desk.tell(line)
            stood.append(all_that_stands(desk))
        for _ in range(3):
            for at in range(len(lines) - 1, -1, -1):
                self.assertEqual(desk.tell("undo"), "done")
                self.assertEqual(all_that_stands(desk), stood[at])
            check_refused(self, "NothingDone", None, desk.tell, "undo")
            for at in range(1, len(lines) + 1):
                self.assertEqual(desk.tell("again"), "done")
                self.assertEqual(all_that_stands(desk), stood[at])
            check_refused(self, "NothingDone", None, desk.tell, "again")

    def test_questions_are_nothing_to_undo_and_forget_nothing(self):
        desk = desk_after("word a ab", "word b ba", "undo")
        for line in ("names", "show a", "at", "least a a", "many a a", "first a a", "by a a 0", "counts a a", "way a a a",
                     "parts a a", "part a a", "corners a a 0"):
            self.assertIs(type(desk.tell(line)), str)
        self.check(("again", "done"), ("names", "a b"), ("undo", "done"), ("undo", "done"), ("names", "none"), desk=desk)


class Questions(OfADesk):
    def test_names_are_sorted(self):
        self.check(("word b x", "x"), ("word ab x", "x"), ("word a x", "x"), ("word zzzzzzzz x", "x"),
                   ("names", "a ab b zzzzzzzz"))

    def test_between_two_words(self):
        self.check(("word one kitten", "kitten"), ("word two sitting", "sitting"), ("least one two", "4"),
                   ("first one two", "k>s i t t e>i n +g"), ("counts one two", "2 1 1"), ("many one two", "1"),
                   ("by one two 0", "k>s i t t e>i n +g"), ("price 1 1 0", "1 1 0"), ("least one two", "3"),
                   ("least two one", "3"), ("first two one", "s>k i t t i>e n -g"))

    def test_scripts_by_their_numbers(self):
        self.check(("word a ab", "ab"), ("word b ba", "ba"), ("price 1 1 0", "1 1 0"), ("many a b", "3"),
                   ("by a b 0", "a>b b>a"), ("by a b 1", "-a b +a"), ("by a b 2", "+b a -b"), ("by b a 2", "+a b -a"),
                   ("counts a b", "2 0 0"), ("least a b", "2"))

    def test_by_a_middle_word(self):
        self.check(("word a abc", "abc"), ("word m xyz", "xyz"), ("word b abd", "abd"), ("way a m b", "1 6"),
                   ("way a a b", "1 1"), ("way a b b", "1 1"), ("way a b a", "0 2"), ("word e .", "."),
                   ("way a e b", "1 8"), ("price 2 0 0", "1 0 0"), ("way a e b", "0 0"))

    def test_parts(self):
        self.check(("word a abcdef", "abcdef"), ("word b fedcba", "fedcba"), ("parts a b", "0 10 2; 4 2 2; 6 0 0"),
                   ("part a b", "2"), ("corners a b 0", "1 0 0; 2 1 0; 2 1 1; 1 0 3"),
                   ("corners a b 1", "1 1 0; 2 1 1; 2 1 0"), ("corners a b 2", "0 0 1; 1 0 3; 2 1 1; 1 1 0; 0 1 0"),
                   ("price 2 1 1", "2 1 1"), ("part a b", "0"), ("price 20 11 1", "20 11 1"), ("part a b", "1"),
                   ("parts a a", "0 0 0"), ("corners a a 0", "0 0 1; 1 0 0; 0 1 0"), ("part a a", "0"))

    def test_the_word_without_letters(self):
        self.check(("word e .", "."), ("word a ab", "ab"), ("least e a", "3"), ("first e a", "+a +b"), ("many e e", "1"),
                   ("first e e", "none"), ("by e e 0", "none"), ("counts e e", "0 0 0"), ("least e e", "0"),
                   ("counts a e", "0 2 1"), ("parts e a", "0 2 1"), ("way e e e", "0 0"), ("part e a", "0"))

    def test_names_alike_in_one_line(self):
        self.check(("word a abab", "abab"), ("least a a", "0"), ("first a a", "a b a b"), ("way a a a", "0 0"),
                   ("copy a a", "abab"), ("many a a", "1"), ("corners a a 0", "0 0 1; 1 0 0; 0 1 0"))

    def test_names_that_are_words_of_the_lines(self):
        for name in FORMS:
            self.check((f"word {name} word", "word"), (f"show {name}", "word"), (f"copy {name} undo", "word"),
                       (f"do {name} w o r d>k", "work"), (f"least {name} {name}", "0"),
                       (f"drop {name}", "none" if name == "undo" else "undo"), ("undo", "done"))
        self.check(("word word word", "word"), ("do word -w -o -r -d", "."), ("word none none", "none"),
                   ("names", "none word"), ("do none n o n e", "none"), ("drop none", "word"), ("drop word", "none"))

    def test_numbers_of_many_figures(self):
        great = "9" * 12
        self.check((f"price {great} 1 0", f"{great} 1 0"), ("word a a", "a"), ("word b b", "b"), ("least a b", "2"),
                   (f"price {great} {great} 1", f"{great} {great} 1"), ("least a b", great),
                   (f"price 1 1 {great}", f"1 1 {great}"), (f"price 100000000000 0 {great}", f"100000000000 0 {great}"),
                   ("word e .", "."), ("least a e", great), ("price 0 1 0", "0 1 0"))
        desk = desk_after("word a " + "a" * 12, "word b " + "a" * 12, "price 1 0 0")
        self.check(("many a b", "251595969"), ("by a b 251595968", " ".join(["+a"] * 12 + ["-a"] * 12)),
                   ("by a b 100000000", script_text(script_by("a" * 12, "a" * 12, (1, 0, 0), 10 ** 8))), desk=desk)
        check_refused(self, "NoNumber", 251595969, desk.tell, "by a b 251595969")
        check_refused(self, "NoNumber", 999999999, desk.tell, "by a b 999999999")

    def test_they_change_nothing(self):
        desk = desk_after("word a ab", "word b ba", "word c abab", "price 3 1 1", "undo", "undo")
        twin = desk_after("word a ab", "word b ba", "word c abab", "price 3 1 1", "undo", "undo")
        for _ in range(2):
            for verb in QUESTIONS:
                line = verb + "".join({"N": " a", "#": " 0"}[kind] for kind in FORMS[verb])
                self.assertEqual(desk.tell(line), desk.tell(line))
        self.assertEqual(whole_row(desk), whole_row(twin))


class TwoDesks(OfADesk):
    def test_they_have_nothing_in_common(self):
        one, other = Desk(), Desk()
        one.tell("word a abc")
        one.tell("price 3 2 1")
        self.assertEqual(all_that_stands(other), ("none", [], "1 1 1"))
        check_refused(self, "NothingDone", None, other.tell, "undo")
        other.tell("word b x")
        other.tell("undo")
        self.assertEqual(all_that_stands(one), ("a", ["abc"], "3 2 1"))
        check_refused(self, "NothingDone", None, one.tell, "again")
        one.tell("undo")
        self.assertEqual(other.tell("again"), "done")
        self.assertEqual(all_that_stands(other), ("b", ["x"], "1 1 1"))
        self.assertEqual(all_that_stands(one), ("a", ["abc"], "1 1 1"))
        self.assertEqual(all_that_stands(Desk()), ("none", [], "1 1 1"))


def some_line(dice, names):
    """A line that may be told or refused, with names that mostly stand for words and scripts that mostly fit."""
    def name():
        return dice.choice(names + ["a", "b", "zz"])

    verb = dice.choice(list(FORMS) + ["word", "word", "do", "undo", "undo", "again", "copy"])
    made = {"N": name, "F": name, "W": lambda: some_word(dice, "ab", dice.choice((3, 5, 8))) or ".",
            "S": lambda: dice.choice(("none", "a", "-a", "a b", "-a -b", "a>b", "+a +b", "a +b", "-b", "b a>c", "x>")),
            "P": lambda: str(dice.choice((0, 0, 0, 0, 1, 2, 3, 10 ** 12 - 1))),
            "#": lambda: str(dice.choice((0, 0, 0, 1, 2, 40, 10 ** 9 - 1)))}
    return " ".join([verb] + [made[kind]() for kind in FORMS[verb]])


def fitting_line(dice, desk, line):
    """The line, or, where it does a script, often one with a script that fits the word under the name."""
    words = line.split(" ")
    if words[0] != "do" or dice.random() < 0.3:
        return line
    word = heard(desk, "show " + words[1])
    if type(word) is not str:
        return line
    steps = [dice.choice((letter, "-" + letter, letter + ">c")) for letter in word.replace(".", "").replace("c", "")]
    return " ".join(words[:2] + (steps or ["+a"]))


def spoilt(dice, line):
    """The line with one sign amiss."""
    at = dice.randint(0, len(line))
    sign = dice.choice(" .0aZ\n-9")
    return dice.choice((line[:at] + sign + line[at:], line[:at] + line[at + 1:], line[:at] + sign + line[at + 1:]))


class AgainstAModel(unittest.TestCase):
    def test_many_lines_at_many_desks(self):
        met = {}
        for seed in range(80):
            dice = random.Random(seed)
            desk, model = Desk(), Model()
            names = ["a", "b", "cc", "undo"]
            for _ in range(120):
                line = fitting_line(dice, desk, some_line(dice, names))
                if dice.random() < 0.2:
                    line = spoilt(dice, line)
                told = heard(desk, line)
                self.assertEqual(told, heard(model, line), line)
                kind = told[0] if type(told) is tuple else line.split(" ")[0]
                met[kind] = met.get(kind, 0) + 1
            self.assertEqual(whole_row(desk), whole_row(model))
        for kind in (*FORMS, "NoLine", "NoName", "NoText", "NotOn", "NoPrice", "TooLong", "NoNumber", "NothingDone"):
            self.assertGreater(met.get(kind, 0), 10, kind)

    def test_every_answer_is_a_text(self):
        dice = random.Random(261)
        desk = Desk()
        for _ in range(500):
            told = heard(desk, some_line(dice, ["a", "b"]))
            self.assertIn(type(told), (str, tuple))


if __name__ == "__main__":
    unittest.main()
