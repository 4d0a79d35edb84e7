"""Tokens: the pieces of which a text consists."""

from askedfor.errors import Malformed, Unbounded

MOST_TEXT = 10000
MOST_NAME = 20
MOST_NUMBER = 2147483647
MOST_DIGITS = 10

WORDS = (
    "ask", "bool", "effect", "else", "false", "fst", "fun", "handle", "if", "in", "int",
    "let", "not", "print", "rec", "return", "snd", "then", "true", "unit",
)
# A sign that another one begins with stands behind it, so the first that fits is the longest.
SIGNS = (
    "=>", "->", "==", "(", ")", "{", "}", ",", ":", ";", "|", "=", "+", "-", "*", "<",
)
SEPARATORS = " \n"
DIGITS = "0123456789"
LETTERS = "abcdefghijklmnopqrstuvwxyz"
NAME_CHARACTERS = "abcdefghijklmnopqrstuvwxyz0123456789_"
# None of these may follow a number directly.
BAD_BEHIND_NUMBER = "abcdefghijklmnopqrstuvwxyzABCDEFGHIJKLMNOPQRSTUVWXYZ_"


def tokenize(text):
    """Return the list of the tokens of the text, in order."""
    if len(text) > MOST_TEXT:
        raise Unbounded("text")
    tokens = []
    at = 0
    while at < len(text):
        if text[at] in SEPARATORS:
            at += 1
        else:
            token, at = token_from(text, at)
            tokens.append(token)
    return tokens


def token_from(text, at):
    """Return the token that begins at an index, and the index behind it."""
    if text[at] in LETTERS:
        return name_from(text, at)
    if text[at] in DIGITS:
        return number_from(text, at)
    return sign_from(text, at)


def name_from(text, at):
    """Return the word or the name that begins at an index, and the index behind it."""
    end = end_of_run(text, at, NAME_CHARACTERS)
    name = text[at:end]
    if name in WORDS:
        return ("word", name, at), end
    if len(name) > MOST_NAME:
        raise Malformed(at)
    return ("name", name, at), end


def number_from(text, at):
    """Return the number that begins at an index, and the index behind it."""
    end = end_of_run(text, at, DIGITS)
    digits = text[at:end]
    if digits[0] == "0" and len(digits) > 1:
        raise Malformed(at)
    # Python itself refuses to read thousands of digits, so their number is looked at first.
    if len(digits) > MOST_DIGITS or int(digits) > MOST_NUMBER:
        raise Malformed(at)
    if end < len(text) and text[end] in BAD_BEHIND_NUMBER:
        raise Malformed(at)
    return ("number", int(digits), at), end


def sign_from(text, at):
    """Return the sign that begins at an index, and the index behind it."""
    for sign in SIGNS:
        end = at + len(sign)
        if text[at:end] == sign:
            return ("sign", sign, at), end
    raise Malformed(at)


def end_of_run(text, at, characters):
    """Return the index behind the longest run of these characters from an index."""
    end = at
    while end < len(text) and text[end] in characters:
        end += 1
    return end
