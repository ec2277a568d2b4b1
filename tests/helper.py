"""What several test files need: refusals checked whole; scripts, words, numbers, prices and shapes to test with."""

import math
import random

from pricebend import errors
from pricebend.scripts import ends_of

SMALL = "abcdefghijklmnopqrstuvwxyz"
SIGNS = [chr(at) for at in range(32, 127)] + ["\n"]
OF_A_TEXT = ("NoWord", "NoText", "NoFraction", "NoPrice", "NoPoint", "NotLeast", "NoLine", "NothingDone")
OF_A_FIELD = {"NotOn": "word", "TooLong": "letters", "TooMany": "many", "NoNumber": "number", "NoName": "name"}
ALL_REFUSALS = OF_A_TEXT + tuple(OF_A_FIELD)
MOVES = {"keep": 0, "other": 0, "out": 1, "in": 2}
TWELVES = ("a" * 12, "b" * 12, "ab" * 6, "ba" * 6, "aab" * 4, SMALL[:12], SMALL[11::-1], SMALL[12:24], "abcabdabeabf")
JUNK = (None, True, False, 0, 1, -1, 7, "", "a", "0", ".", "keep", (), (0,), (None,), ((),), ("keep", "a"), (0, 0, 1))


def check_class(case, error, name):
    """The error is of the class of that name and of none of the others."""
    case.assertIs(type(error), getattr(errors, name))
    case.assertIsInstance(error, errors.BendError)
    case.assertIsInstance(error, ValueError)
    for other in ALL_REFUSALS:
        if other != name:
            case.assertNotIsInstance(error, getattr(errors, other))


def check_refused(case, name, field, asked, *handed):
    """asked(*handed) is refused by the class of that name; its field, if it has one, is as told."""
    with case.assertRaises(errors.BendError) as caught:
        asked(*handed)
    check_class(case, caught.exception, name)
    if name in OF_A_FIELD:
        told = getattr(caught.exception, OF_A_FIELD[name])
        case.assertEqual(told, field)
        case.assertIs(type(told), type(field))


def is_plain(thing):
    """Whether the thing is made of whole numbers, texts, truths, None and tuples of such alone."""
    if type(thing) is tuple:
        return all(is_plain(part) for part in thing)
    return thing is None or type(thing) in (int, str, bool)


def is_same(one, other):
    """Whether both things are equal, a truth being equal to no number."""
    if type(one) is not type(other):
        return False
    if type(one) is tuple:
        return len(one) == len(other) and all(is_same(a, b) for a, b in zip(one, other))
    return one == other


def near_to(thing):
    """Some things near to a number or a text, and some that are near to none."""
    if type(thing) is int:
        return JUNK + (thing + 1, thing - 1, -thing, 2 * thing, str(thing), (thing,), 10 ** 39)
    return JUNK + ((thing + "a", thing[1:], thing.swapcase(), "z", "out") if type(thing) is str else ())


def with_one_amiss(thing):
    """Things that are like this one but for one place: another thing there, one too few or one too many."""
    told = [other for other in near_to(thing) if not is_same(other, thing)]
    if type(thing) is tuple:
        for at, part in enumerate(thing):
            told.append(thing[:at] + thing[at + 1:])
            told.append(thing[:at] + (part, part) + thing[at + 1:])
            told.extend(thing[:at] + (other,) + thing[at + 1:] for other in with_one_amiss(part))
        told.extend((thing + (None,), (0,) + thing, (thing,)))
        told.extend(other for other in (thing[::-1], thing[1:] + thing[:1]) if other != thing)
    return told


def moves_of(script):
    return tuple(MOVES[step[0]] for step in script)


def all_steps(letters):
    steps = [(kind, a) for kind in ("keep", "out", "in") for a in letters]
    return steps + [("other", a, b) for a in letters for b in letters if a != b]


def all_scripts_of(letters, most):
    """Every script of at most so many steps over these letters."""
    told = [()]
    last = [()]
    for _ in range(most):
        last = [script + (step,) for script in last for step in all_steps(letters)]
        told.extend(last)
    return told


def another(dice, letter, letters):
    return dice.choice([sign for sign in letters if sign != letter])


def ins_or_none(dice, letters, room, eager):
    """A row of ins, often none; the more eager, the longer."""
    row = []
    while len(row) < room and dice.random() < eager:
        row.append(("in", dice.choice(letters)))
    return row


def script_from(dice, word, letters, most=12):
    """Some script that leads from the word to one of at most so many letters."""
    eager = dice.choice((0.1, 0.4, 0.8, 0.95))
    gone = dice.choice((0.1, 0.4, 0.8))
    leaving = dice.random() < gone
    steps = []
    made = 0
    for letter in word:
        row = ins_or_none(dice, letters, most - made, eager * dice.random())
        steps.extend(row)
        made += len(row)
        if dice.random() < 0.4:
            leaving = dice.random() < gone
        if leaving or made == most:
            steps.append(("out", letter))
        elif dice.random() < 0.5 or len(letters) == 1:
            steps.append(("keep", letter))
            made += 1
        else:
            steps.append(("other", letter, another(dice, letter, letters)))
            made += 1
    steps.extend(ins_or_none(dice, letters, most - made, eager))
    return tuple(steps)


def some_word(dice, letters, most=12):
    return "".join(dice.choice(letters) for _ in range(dice.randint(0, most)))


def some_scripts(many, seed, letters="abz"):
    dice = random.Random(seed)
    return [script_from(dice, some_word(dice, letters), letters) for _ in range(many)]


def words_over(letters, most):
    """Every word of at most so many of these letters."""
    told = [""]
    last = [""]
    for _ in range(most):
        last = [word + letter for word in last for letter in letters]
        told.extend(last)
    return told


def scripts_between(one, other):
    """Every script from the one word to the other one, in the order of their moves."""
    if one == "" and other == "":
        return [()]
    told = []
    if one and other:
        step = ("keep", one[0]) if one[0] == other[0] else ("other", one[0], other[0])
        told.extend((step,) + behind for behind in scripts_between(one[1:], other[1:]))
    if one:
        told.extend((("out", one[0]),) + behind for behind in scripts_between(one[1:], other))
    if other:
        told.extend((("in", other[0]),) + behind for behind in scripts_between(one, other[1:]))
    return told


def some_pair(dice, most=12):
    """Two words: of few letters or of many, of none to the most or of just so many, and some of them near."""
    letters = dice.choice(("a", "ab", "abc", SMALL))
    if dice.random() < 0.3:
        return tuple("".join(dice.choice(letters) for _ in range(most)) for _ in range(2))
    one = some_word(dice, letters, most)
    if dice.random() < 0.5:
        return one, ends_of(script_from(dice, one, letters, most))[1]
    return one, some_word(dice, letters, most)


def some_number(dice, figures):
    """Some whole number of just so many figures, of either sign."""
    return dice.choice((-1, 1)) * dice.randint(10 ** (figures - 1), 10 ** figures - 1)


def some_numbers(many, seed):
    """Whole numbers of either sign: 0, small ones, and ones of up to forty figures."""
    dice = random.Random(seed)
    told = [0, 1, -1, 2, -2, 6, -6, 10 ** 39, -(10 ** 39), 10 ** 40 - 1, 1 - 10 ** 40]
    while len(told) < many:
        told.append(some_number(dice, dice.choice((1, 1, 2, 3, 20, 40))))
    return told


def prices_up_to(most):
    """Every price of numbers up to that one, in lowest terms or not."""
    numbers = range(most + 1)
    return [(o, s, t) for o in numbers for s in numbers for t in numbers if (o, s, t) != (0, 0, 0)]


def some_price(dice, most=40):
    """Some price of numbers of any size up to so many figures, some of them 0."""
    while True:
        figures = dice.choice((1, 1, 1, 2, 12, most))
        price = tuple(dice.choice((0, 1, 1, 1)) * abs(some_number(dice, figures)) for _ in range(3))
        if price != (0, 0, 0):
            return price


def some_cases(many, seed, most=12, figures=40):
    """Two words of at most so many letters and a price of so many figures, by a tuple of three, many times."""
    dice = random.Random(seed)
    return [some_pair(dice, most) + (some_price(dice, figures),) for _ in range(many)]


def in_lowest_terms(numbers):
    divisor = math.gcd(*numbers)
    return tuple(number // divisor for number in numbers)


def across(a, b):
    """The three numbers at which both sides are worth 0, but for a multiple; all 0 where they are multiples."""
    return (a[1] * b[2] - a[2] * b[1], a[2] * b[0] - a[0] * b[2], a[0] * b[1] - a[1] * b[0])


def turned(a, b, c):
    """The determinant of the three rows, told by products along its slants."""
    return sum(a[x] * b[(x + 1) % 3] * c[(x + 2) % 3] - a[x] * b[(x + 2) % 3] * c[(x + 1) % 3] for x in range(3))


def worth(side, price):
    return sum(a * b for a, b in zip(side, price))


def in_order_round(corners):
    """The corners, the least one first, each one behind that from which all others lie to the same hand."""
    told = [min(corners)]
    while len(told) < len(corners):
        a = told[-1]
        told.append(next(b for b in corners if b != a and
                         all(turned(a, b, c) > 0 for c in corners if c not in (a, b))))
    return tuple(told)


def shape_slowly(sides):
    """The shape of all prices at which all the sides are worth 0 or more, or () where one is worth more at none.

    Each of its corners is a price at which two sides, or borders of all prices, are worth 0.
    """
    if (0, 0, 0) in sides:
        return ()
    bounds = sorted(set(sides) | {(1, 0, 0), (0, 1, 0), (0, 0, 1)})
    corners = set()
    for a in bounds:
        for b in bounds:
            at = across(a, b)
            if any(at) and all(worth(side, at) >= 0 for side in bounds):
                corners.add(in_lowest_terms(at))
    return in_order_round(corners) if len(corners) > 2 else ()
