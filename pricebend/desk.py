"""A desk, which keeps words under names and one price, and is told lines."""

from pricebend.counted import how_many, script_by
from pricebend.errors import NoName, NoNumber, NothingDone
from pricebend.lines import line_read, names_shown, numbers_shown, rows_shown, word_shown
from pricebend.parting import part_at, parted
from pricebend.prices import price_of
from pricebend.scripts import counts_of, done_on
from pricebend.table import first_script, least_cost
from pricebend.texts import read_script, script_text

PRICE_AT_FIRST = (1, 1, 1)

# Each deed tells the words and the price that stand behind it, and the answer. The words that
# stood ahead of it are kept to be undone to, so it makes new ones.


def word_deed(words, price, name, word):
    return {**words, name: word}, price, word_shown(word)


def do_deed(words, price, name, text):
    return word_deed(words, price, name, done_on(read_script(text), words[name]))


def copy_deed(words, price, name, other):
    return word_deed(words, price, other, words[name])


def drop_deed(words, price, name):
    left = {kept: words[kept] for kept in words if kept != name}
    return left, price, names_shown(left)


def price_deed(words, price, o, s, t):
    new = price_of(o, s, t)
    return words, new, numbers_shown(new)


DEEDS = {"word": word_deed, "do": do_deed, "copy": copy_deed, "drop": drop_deed, "price": price_deed}

# Each question is answered of the price and of what stands in the line, words for their names.


def show_told(price, word):
    return word_shown(word)


def at_told(price):
    return numbers_shown(price)


def least_told(price, one, other):
    return str(least_cost(one, other, price))


def many_told(price, one, other):
    return str(how_many(one, other, price))


def first_told(price, one, other):
    return script_text(first_script(one, other, price))


def by_told(price, one, other, number):
    return script_text(script_by(one, other, price, number))


def counts_told(price, one, other):
    return numbers_shown(counts_of(first_script(one, other, price)))


def way_told(price, one, middle, other):
    through = least_cost(one, middle, price) + least_cost(middle, other, price)
    return numbers_shown((least_cost(one, other, price), through))


def parts_told(price, one, other):
    return rows_shown([counts for counts, script, shape in parted(one, other)])


def part_told(price, one, other):
    return str(part_at(parted(one, other), price))


def corners_told(price, one, other, number):
    parting = parted(one, other)
    if number >= len(parting):
        raise NoNumber(number)
    counts, script, shape = parting[number]
    return rows_shown(shape)


QUESTIONS = {
    "show": show_told,
    "at": at_told,
    "least": least_told,
    "many": many_told,
    "first": first_told,
    "by": by_told,
    "counts": counts_told,
    "way": way_told,
    "parts": parts_told,
    "part": part_told,
    "corners": corners_told,
}


class Desk:
    """Words under names and one price, at first none and (1, 1, 1)."""

    def __init__(self):
        self.words = {}
        self.price = PRICE_AT_FIRST
        # The words and the price ahead of each deed done, and behind each deed undone.
        self.done = []
        self.undone = []

    def tell(self, line):
        verb, parts = line_read(line)
        for kind, part in parts:
            if kind == "name" and part not in self.words:
                raise NoName(part)
        if verb in DEEDS:
            return self.answer_deed(verb, [part for kind, part in parts])
        if verb == "undo":
            return self.go_over(self.done, self.undone)
        if verb == "again":
            return self.go_over(self.undone, self.done)
        if verb == "names":
            return names_shown(self.words)
        return self.answer_question(verb, [self.words[part] if kind == "name" else part for kind, part in parts])

    def answer_deed(self, verb, told):
        deed = DEEDS[verb]
        words = self.words
        price = self.price
        new_words, new_price, answer = deed(words, price, *told)
        self.done.append((words, price))
        self.undone.clear()
        self.words = new_words
        self.price = new_price
        return answer

    def answer_question(self, verb, told):
        question = QUESTIONS[verb]
        price = self.price
        return question(price, *told)

    def go_over(self, from_these, to_those):
        """All stands as the last of these tells, and how it stood is kept as the last of those."""
        if from_these == []:
            raise NothingDone("there is nothing to undo or to do again")
        to_those.append((self.words, self.price))
        self.words, self.price = from_these.pop()
        return "done"
