"""The texts of ordinals, rows and sentences.

Only the text of an object can be parsed. So a text is read as far as it goes,
and what was found must have this very text.
"""

from vowstair.errors import ParseError
from vowstair.ordinals import ONE, ZERO, is_ordinal, natural
from vowstair.rows import is_row
from vowstair.sentences import is_name, is_sentence

_MOST_DIGITS = 30
_LEVELS = ("0", "1", "2")
# How many things behind it each of these words takes: "(" takes a part, an
# operator, a part and ")".
_TAKES = {"not": 1, "shown": 2, "(": 4}


def format_ordinal(ordinal):
    """The text of an ordinal."""
    if ordinal == ZERO:
        return "0"
    return "+".join([_term_text(exponent, count) for exponent, count in ordinal])


def _term_text(exponent, count):
    if exponent == ZERO:
        return str(count)
    power = _power_text(exponent)
    return power if count == 1 else f"{power}*{count}"


def _power_text(exponent):
    if exponent == ONE:
        return "w"
    if exponent[0][0] == ZERO:
        return f"w^{format_ordinal(exponent)}"
    return f"w^({format_ordinal(exponent)})"


def format_row(row):
    """The text of a row."""
    return ",".join([format_ordinal(ordinal) for ordinal in row])


def format_sentence(sentence):
    """The text of a sentence, which may be nested deeper than calls can be."""
    found = []
    stack = [sentence]
    while stack:
        piece = stack.pop()
        if isinstance(piece, str):
            found.append(piece)
        else:
            stack.extend(_pieces(piece)[::-1])
    return "".join(found)


def _pieces(node):
    """The texts and the parts that the text of a node consists of."""
    word = node[0]
    if word in ("true", "false"):
        return [word]
    if word == "name":
        return [node[1]]
    if word == "not":
        return ["not ", node[1]]
    if word == "shown":
        return [f"shown {node[1]} ", node[2]]
    return ["(", node[1], f" {word} ", node[2], ")"]


def parse_ordinal(text):
    """The ordinal with this text."""
    found = ZERO
    if text != "0":
        found, _ = _terms_at(text, 0)
    if not is_ordinal(found) or format_ordinal(found) != text:
        raise ParseError(0)
    return found


def _terms_at(text, at):
    """The terms that are written from a place on, and the place behind them."""
    found = []
    while True:
        term, at = _term_at(text, at)
        found.append(term)
        if text[at:at + 1] != "+":
            return tuple(found), at
        at += 1


def _term_at(text, at):
    if text[at:at + 1] != "w":
        count, at = _number_at(text, at)
        return (ZERO, count), at
    exponent, at = _exponent_at(text, at + 1)
    if text[at:at + 1] != "*":
        return (exponent, 1), at
    count, at = _number_at(text, at + 1)
    return (exponent, count), at


def _exponent_at(text, at):
    if text[at:at + 1] != "^":
        return ONE, at
    if text[at + 1:at + 2] != "(":
        number, at = _number_at(text, at + 1)
        return natural(number), at
    exponent, at = _terms_at(text, at + 2)
    return exponent, at + 1


def _number_at(text, at):
    behind = at
    while "0" <= text[behind:behind + 1] <= "9":
        behind += 1
    if behind == at or behind - at > _MOST_DIGITS:
        raise ParseError(0)
    return int(text[at:behind]), behind


def parse_row(levels, text):
    """The row of so many levels with this text."""
    found = tuple([parse_ordinal(part) for part in text.split(",")])
    if not is_row(levels, found):
        raise ParseError(0)
    return found


def parse_sentence(levels, text):
    """The sentence of so many levels with this text."""
    found = sentence_told(levels, text)
    if found is None:
        raise ParseError(0)
    return found


def sentence_told(levels, text):
    """The sentence of so many levels with this text, or None."""
    found = _thing_told(text)
    if is_sentence(levels, found) and format_sentence(found) == text:
        return found
    return None


def _thing_told(text):
    """The one thing that all words of a text make, or None. It may be no sentence."""
    stack = []
    # Backwards, each word comes behind all that it takes.
    for word in text.replace("(", "( ").replace(")", " )").split(" ")[::-1]:
        many = _TAKES.get(word, 0)
        if many > len(stack):
            return None
        stack.append(_made(word, [stack.pop() for _ in range(many)]))
    return stack[0] if len(stack) == 1 else None


def _made(word, taken):
    """What a word makes of the things that it takes; operators and the like stay words."""
    if word == "(":
        return (taken[1], taken[0], taken[2])
    if word in ("not", "shown"):
        return (word,) + tuple(taken)
    if word in ("true", "false"):
        return (word,)
    if word in _LEVELS:
        return int(word)
    return ("name", word) if is_name(word) else word
