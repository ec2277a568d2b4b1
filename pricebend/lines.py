"""The lines that a desk is told: how they are read, and how what they speak of is shown."""

from pricebend.errors import NoLine
from pricebend.words import is_letter, is_word

NO_LETTERS = "."
MOST_IN_NAME = 8
MOST_FIGURES_IN_PRICE = 12
MOST_FIGURES_IN_NUMBER = 9

# What stands behind the first word of each line: a name stands for a word, a free name need not.
FORMS = {
    "word": ("free name", "word"),
    "do": ("name", "script"),
    "copy": ("name", "free name"),
    "drop": ("name",),
    "price": ("price", "price", "price"),
    "undo": (),
    "again": (),
    "names": (),
    "show": ("name",),
    "at": (),
    "least": ("name", "name"),
    "many": ("name", "name"),
    "first": ("name", "name"),
    "by": ("name", "name", "number"),
    "counts": ("name", "name"),
    "way": ("name", "name", "name"),
    "parts": ("name", "name"),
    "part": ("name", "name"),
    "corners": ("name", "name", "number"),
}


def name_read(text):
    if len(text) > MOST_IN_NAME or not all(is_letter(sign) for sign in text):
        raise NoLine("a name has one to eight letters, each one of a to z")
    return text


def word_read(text):
    if text == NO_LETTERS:
        return ""
    if not is_word(text):
        raise NoLine("a word has one to twelve letters, each one of a to z, or is written as a dot")
    return text


def script_read(text):
    # Whether it is a script's text is asked only when its name is known to stand for a word.
    return text


def figures_read(text, most):
    if len(text) > most or not all("0" <= sign <= "9" for sign in text):
        raise NoLine("a number is written by its figures alone, and not too many")
    if text[0] == "0" and text != "0":
        raise NoLine("no nought stands ahead of a number")
    return int(text)


def price_read(text):
    return figures_read(text, MOST_FIGURES_IN_PRICE)


def number_read(text):
    return figures_read(text, MOST_FIGURES_IN_NUMBER)


READERS = {
    "name": name_read,
    "free name": name_read,
    "word": word_read,
    "script": script_read,
    "price": price_read,
    "number": number_read,
}


def part_read(kind, text):
    reader = READERS[kind]
    return reader(text)


def words_of(line):
    """The words of the line, none of them empty; all of a script is one word."""
    words = line.split(" ")
    if "" in words:
        raise NoLine("one blank stands between two words, and none at the ends")
    return line.split(" ", 2) if words[0] == "do" else words


def line_read(line):
    """The first word of the line, and a tuple (kind, thing read) for each one behind it."""
    words = words_of(line)
    verb = words[0]
    texts = words[1:]
    if verb not in FORMS:
        raise NoLine("no line begins so")
    kinds = FORMS[verb]
    if len(texts) != len(kinds):
        raise NoLine("the line has a word too few or too many")
    return verb, [(kind, part_read(kind, text)) for kind, text in zip(kinds, texts)]


def word_shown(word):
    return NO_LETTERS if word == "" else word


def numbers_shown(numbers):
    return " ".join(str(number) for number in numbers)


def rows_shown(rows):
    return "; ".join(numbers_shown(row) for row in rows)


def names_shown(words):
    return " ".join(sorted(words)) if words != {} else "none"
