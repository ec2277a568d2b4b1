"""Scripts: tuples of steps that lead from a first word to a second one."""

from pricebend.errors import NotOn, TooLong
from pricebend.words import MOST_LETTERS, is_letter

# How many letters stand behind the kind in a step of each kind.
LETTERS_BEHIND = {"keep": 1, "other": 2, "out": 1, "in": 1}


def is_step(thing):
    if not isinstance(thing, tuple) or len(thing) == 0:
        return False
    kind = thing[0]
    if not isinstance(kind, str) or kind not in LETTERS_BEHIND:
        return False
    behind = thing[1:]
    if len(behind) != LETTERS_BEHIND[kind] or not all(is_letter(part) for part in behind):
        return False
    return kind != "other" or behind[0] != behind[1]


def is_script(thing):
    if not isinstance(thing, tuple) or not all(is_step(part) for part in thing):
        return False
    first, second = ends_of(thing)
    return len(first) <= MOST_LETTERS and len(second) <= MOST_LETTERS


def letter_taken(step):
    """The letter that the step takes of the first word, or an empty text."""
    return "" if step[0] == "in" else step[1]


def letter_made(step):
    """The letter that the step makes of the second word, or an empty text."""
    return "" if step[0] == "out" else step[-1]


def ends_of(script):
    first = "".join(letter_taken(step) for step in script)
    second = "".join(letter_made(step) for step in script)
    return first, second


def counts_of(script):
    """How many others, letters left out or put in, and stretches the script has."""
    others = 0
    letters = 0
    stretches = 0
    before = None
    for step in script:
        kind = step[0]
        if kind == "other":
            others += 1
        elif kind != "keep":
            letters += 1
            # An out behind an in, or an in behind an out, begins a stretch too.
            if kind != before:
                stretches += 1
        before = kind
    return others, letters, stretches


def turned_step(step):
    kind = step[0]
    if kind == "keep":
        return step
    if kind == "other":
        return ("other", step[2], step[1])
    if kind == "out":
        return ("in", step[1])
    return ("out", step[1])


def turned_back(script):
    return tuple(turned_step(step) for step in script)


def mirror_of(script):
    return script[::-1]


def done_on(script, word):
    first, second = ends_of(script)
    if word != first:
        raise NotOn(word)
    return second


def set_behind(one, other):
    script = one + other
    for word in ends_of(script):
        if len(word) > MOST_LETTERS:
            raise TooLong(len(word))
    return script


def sources_of(script):
    """For each letter of the second word its place in the first one, or None where it is put in."""
    sources = []
    taken = 0
    for step in script:
        kind = step[0]
        if kind == "in":
            sources.append(None)
        else:
            if kind != "out":
                sources.append(taken)
            taken += 1
    return sources


def step_between(a, b):
    return ("keep", a) if a == b else ("other", a, b)


def gap_steps(gone, come):
    """The steps that leave out the letters gone and put in the letters come."""
    return [("out", letter) for letter in gone] + [("in", letter) for letter in come]


def script_by_pairs(first, second, pairs):
    """The script between both words that makes of first[at] just second[to] for each pair (at, to)."""
    steps = []
    taken = 0
    made = 0
    for at, to in pairs:
        steps.extend(gap_steps(first[taken:at], second[made:to]))
        steps.append(step_between(first[at], second[to]))
        taken = at + 1
        made = to + 1
    steps.extend(gap_steps(first[taken:], second[made:]))
    return tuple(steps)


def led_through(one, other):
    first, middle = ends_of(one)
    begun, last = ends_of(other)
    if begun != middle:
        raise NotOn(middle)
    # A stretch of one or of other lies in a single gap between letters that go all the way,
    # and a gap has outs (ins) only where one or other has outs (ins) there. So with all outs
    # of a gap ahead of its ins no gap has more stretches than one and other have in it.
    sources = sources_of(one)
    targets = sources_of(turned_back(other))
    pairs = [(at, to) for at, to in zip(sources, targets) if at is not None and to is not None]
    return script_by_pairs(first, last, pairs)
