"""How values are written, and read."""

from mendsure.errors import NoText
from mendsure.values import is_name

MOST_FIGURES = 30
FIGURES = "0123456789"


def show_value(value):
    """The text that writes a value."""
    return str(value)


def writes_number(text):
    """Whether a text writes a value that is a number, just as show_value does."""
    figures = text[1:] if text.startswith("-") else text
    if not 1 <= len(figures) <= MOST_FIGURES:
        return False
    # int takes blanks, a sign +, underscores and figures of other scripts too, so each sign is looked at.
    if not all([figure in FIGURES for figure in figures]):
        return False
    return text == "0" or figures[0] != "0"


def read_value(text):
    """The value that a text writes."""
    if not isinstance(text, str):
        raise NoText("what is no text writes no value")
    if is_name(text):
        return text
    if writes_number(text):
        return int(text)
    raise NoText("the text writes no value")
