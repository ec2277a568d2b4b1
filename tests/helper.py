"""What several test files need: refusals checked whole; scripts, words, numbers and prices to test with."""

import random

from pricebend import errors

SMALL = "abcdefghijklmnopqrstuvwxyz"
SIGNS = [chr(at) for at in range(32, 127)] + ["\n"]
OF_A_TEXT = ("NoWord", "NoText", "NoFraction", "NoPrice", "NoPoint", "NotLeast", "NoLine", "NothingDone")
OF_A_FIELD = {"NotOn": "word", "TooLong": "letters", "TooMany": "many", "NoNumber": "number", "NoName": "name"}
ALL_REFUSALS = OF_A_TEXT + tuple(OF_A_FIELD)


def check_class(case, error, name):
    """The error is of the class of that name and of none of the others."""
    case.assertIs(type(error), getattr(errors, name))
    case.assertIsInstance(error, errors.BendError)
    case.assertIsInstance(error, ValueError)
    for other in ALL_REFUSALS:
        if other != name:
            case.assertNotIsInstance(error, getattr(errors, other))


def check_refused(case, name, field, asked, *handed):
    """asked(*handed) is refused by the class of that name; its field, if it has one, is as told."""
    with case.assertRaises(errors.BendError) as caught:
        asked(*handed)
    check_class(case, caught.exception, name)
    if name in OF_A_FIELD:
        told = getattr(caught.exception, OF_A_FIELD[name])
        case.assertEqual(told, field)
        case.assertIs(type(told), type(field))


def is_plain(thing):
    """Whether the thing is made of whole numbers, texts, truths, None and tuples of such alone."""
    if type(thing) is tuple:
        return all(is_plain(part) for part in thing)
    return thing is None or type(thing) in (int, str, bool)


def all_steps(letters):
    steps = [(kind, a) for kind in ("keep", "out", "in") for a in letters]
    return steps + [("other", a, b) for a in letters for b in letters if a != b]


def all_scripts_of(letters, most):
    """Every script of at most so many steps over these letters."""
    told = [()]
    last = [()]
    for _ in range(most):
        last = [script + (step,) for script in last for step in all_steps(letters)]
        told.extend(last)
    return told


def another(dice, letter, letters):
    return dice.choice([sign for sign in letters if sign != letter])


def ins_or_none(dice, letters, room, eager):
    """A row of ins, often none; the more eager, the longer."""
    row = []
    while len(row) < room and dice.random() < eager:
        row.append(("in", dice.choice(letters)))
    return row


def script_from(dice, word, letters, most=12):
    """Some script that leads from the word to one of at most so many letters."""
    eager = dice.choice((0.1, 0.4, 0.8, 0.95))
    gone = dice.choice((0.1, 0.4, 0.8))
    leaving = dice.random() < gone
    steps = []
    made = 0
    for letter in word:
        row = ins_or_none(dice, letters, most - made, eager * dice.random())
        steps.extend(row)
        made += len(row)
        if dice.random() < 0.4:
            leaving = dice.random() < gone
        if leaving or made == most:
            steps.append(("out", letter))
        elif dice.random() < 0.5 or len(letters) == 1:
            steps.append(("keep", letter))
            made += 1
        else:
            steps.append(("other", letter, another(dice, letter, letters)))
            made += 1
    steps.extend(ins_or_none(dice, letters, most - made, eager))
    return tuple(steps)


def some_word(dice, letters, most=12):
    return "".join(dice.choice(letters) for _ in range(dice.randint(0, most)))


def some_scripts(many, seed, letters="abz"):
    dice = random.Random(seed)
    return [script_from(dice, some_word(dice, letters), letters) for _ in range(many)]


def words_over(letters, most):
    """Every word of at most so many of these letters."""
    told = [""]
    last = [""]
    for _ in range(most):
        last = [word + letter for word in last for letter in letters]
        told.extend(last)
    return told


def scripts_between(one, other):
    """Every script from the one word to the other one, in the order of their moves."""
    if one == "" and other == "":
        return [()]
    told = []
    if one and other:
        step = ("keep", one[0]) if one[0] == other[0] else ("other", one[0], other[0])
        told.extend((step,) + behind for behind in scripts_between(one[1:], other[1:]))
    if one:
        told.extend((("out", one[0]),) + behind for behind in scripts_between(one[1:], other))
    if other:
        told.extend((("in", other[0]),) + behind for behind in scripts_between(one, other[1:]))
    return told


def some_number(dice, figures):
    """Some whole number of just so many figures, of either sign."""
    return dice.choice((-1, 1)) * dice.randint(10 ** (figures - 1), 10 ** figures - 1)


def some_numbers(many, seed):
    """Whole numbers of either sign: 0, small ones, and ones of up to forty figures."""
    dice = random.Random(seed)
    told = [0, 1, -1, 2, -2, 6, -6, 10 ** 39, -(10 ** 39), 10 ** 40 - 1, 1 - 10 ** 40]
    while len(told) < many:
        told.append(some_number(dice, dice.choice((1, 1, 2, 3, 20, 40))))
    return told


def prices_up_to(most):
    """Every price of numbers up to that one, in lowest terms or not."""
    numbers = range(most + 1)
    return [(o, s, t) for o in numbers for s in numbers for t in numbers if (o, s, t) != (0, 0, 0)]


def some_price(dice):
    """Some price of numbers of any size up to forty figures, some of them 0."""
    while True:
        figures = dice.choice((1, 1, 1, 2, 12, 40))
        price = tuple(dice.choice((0, 1, 1, 1)) * abs(some_number(dice, figures)) for _ in range(3))
        if price != (0, 0, 0):
            return price
