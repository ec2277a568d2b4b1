"""Words: texts of none to twelve small letters."""

from pricebend.errors import NoWord

MOST_LETTERS = 12


def is_letter(thing):
    return isinstance(thing, str) and len(thing) == 1 and "a" <= thing <= "z"


def is_word(thing):
    if not isinstance(thing, str) or len(thing) > MOST_LETTERS:
        return False
    return all(is_letter(sign) for sign in thing)


def word_of(text):
    if not is_word(text):
        raise NoWord("a word has none to twelve letters, each one of a to z")
    return text
