"""The refusals: each one is an error of its own class, straight beneath BendError."""


class BendError(ValueError):
    """Any refusal, made of one text."""

    def __init__(self, text):
        ValueError.__init__(self, text)


class NoWord(BendError):
    """The text is no word."""


class NoText(BendError):
    """The text is written of no script."""


class NoFraction(BendError):
    """Something would be divided by nought."""


class NoPrice(BendError):
    """The numbers make no price."""


class NoPoint(BendError):
    """The price has no others to divide by."""


class NotLeast(BendError):
    """The script is none of those of least cost."""


class NoLine(BendError):
    """The line is none of those that a desk is told."""


class NothingDone(BendError):
    """There is nothing to undo or to do again."""


class NotOn(BendError):
    """The script does not begin with this word."""

    def __init__(self, word):
        BendError.__init__(self, f"the script does not begin with {word!r}")
        self.word = word


class TooLong(BendError):
    """A word has, or would have, so many letters."""

    def __init__(self, letters):
        BendError.__init__(self, f"{letters} letters are too many")
        self.letters = letters


class TooMany(BendError):
    """There are so many scripts."""

    def __init__(self, many):
        BendError.__init__(self, f"{many} scripts are too many")
        self.many = many


class NoNumber(BendError):
    """Nothing has this number."""

    def __init__(self, number):
        BendError.__init__(self, f"nothing has the number {number}")
        self.number = number


class NoName(BendError):
    """No word stands under this name."""

    def __init__(self, name):
        BendError.__init__(self, f"no word stands under {name!r}")
        self.name = name
