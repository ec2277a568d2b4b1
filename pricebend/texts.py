"""Scripts written as texts, and read of them."""

from pricebend.errors import NoText
from pricebend.scripts import is_script

NO_STEPS = "none"

# The sign ahead of the letter of a step that is an out or an in.
KIND_OF_SIGN = {"-": "out", "+": "in"}


def step_text(step):
    kind = step[0]
    if kind == "keep":
        return step[1]
    if kind == "other":
        return f"{step[1]}>{step[2]}"
    return f"-{step[1]}" if kind == "out" else f"+{step[1]}"


def script_text(script):
    if len(script) == 0:
        return NO_STEPS
    return " ".join(step_text(step) for step in script)


def step_read(part):
    """The step that the part has the form of, or None; whether its letters are letters is not asked."""
    if len(part) == 1:
        return ("keep", part)
    if len(part) == 2 and part[0] in KIND_OF_SIGN:
        return (KIND_OF_SIGN[part[0]], part[1])
    if len(part) == 3 and part[1] == ">":
        return ("other", part[0], part[2])
    return None


def read_script(text):
    if text == NO_STEPS:
        return ()
    # A blank too many leaves an empty part, which has the form of no step.
    script = tuple(step_read(part) for part in text.split(" "))
    if not is_script(script):
        raise NoText("the text is written of no script")
    return script
