"""Texts: a web as a line for each step, and back."""

from pilepass.errors import BadText, BadWeb
from pilepass.webs import inputs_of_kind, web_error

DIGITS = "0123456789"


def web_text(web):
    """The text of a web."""
    return "\n".join([" ".join([str(kind)] + [str(giver) for giver in inputs]) for kind, inputs in web])


def read_web(value):
    """The web with this text."""
    if not isinstance(value, str):
        raise BadText(None)
    web = ()
    for line, text in enumerate(value.split("\n")):
        step = step_of_line(text)
        if step is None:
            raise BadText(line)
        web = web + (step,)
    error = web_error(web)
    if error is not None:
        raise BadWeb(error)
    return web


def step_of_line(text):
    """The step that a line tells, whose inputs may be no step numbers; None if it tells none."""
    words = text.split(" ")
    kind = kind_of_word(words[0])
    if inputs_of_kind(kind) != len(words) - 1 or not all([is_number_word(word) for word in words[1:]]):
        return None
    return (kind, tuple([int(word) for word in words[1:]]))


def kind_of_word(word):
    """The kind that a word tells: an integer, or the word itself, which may be no kind."""
    if is_number_word(word):
        return int(word)
    if word.startswith("-") and word != "-0" and is_number_word(word[1:]):
        return int(word)
    return word


def is_number_word(word):
    """Whether a word is a number of one or two digits without a leading zero."""
    if not 1 <= len(word) <= 2 or not all([sign in DIGITS for sign in word]):
        return False
    return word == "0" or not word.startswith("0")
