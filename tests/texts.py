"""What can be parsed, told a second time without the package, and texts that are spoilt."""

import re
from functools import cmp_to_key

RESERVED = ("true", "false", "not", "and", "or", "then", "shown")


def number_told(text, least):
    """Whether a text is a number from `least` on, without leading zeros."""
    return re.fullmatch("[1-9][0-9]{0,29}", text) is not None and int(text) >= least


def split_outside(text):
    """The parts of a text between the plus signs that are in no parentheses."""
    parts, depth = [""], 0
    for sign in text:
        depth += {"(": 1, ")": -1}.get(sign, 0)
        if sign == "+" and depth == 0:
            parts.append("")
        else:
            parts[-1] += sign
    return parts


def ordinal_told(text):
    """The ordinal with this text, or None; a term for a term, by its words in the document."""
    if text == "0":
        return ()
    terms = [term_told(part) for part in split_outside(text)]
    if None in terms:
        return None
    exponents = [exponent for exponent, _ in terms]
    falling = all(compared(low, high) < 0 for high, low in zip(exponents, exponents[1:]))
    return tuple(terms) if falling else None


def term_told(text):
    if number_told(text, 1):
        return ((), int(text))
    found = re.fullmatch(r"w(\^([0-9]+|\(.*\)))?(\*([0-9]+))?", text, re.DOTALL)
    if found is None:
        return None
    power, times = found[2], found[4]
    if times is not None and not number_told(times, 2):
        return None
    exponent = (((), 1),)
    if power is not None and power[0] == "(":
        exponent = ordinal_told(power[1:-1])
        # Numbers stand behind ^ without parentheses.
        if exponent is None or re.fullmatch("[0-9]+", power[1:-1]):
            return None
    elif power is not None:
        if not number_told(power, 2):
            return None
        exponent = (((), int(power)),)
    return (exponent, int(times or 1))


def compared(one, other):
    """Below 0 if one ordinal is less than the other, 0 if they are equal, else above 0."""
    for (high, many), (low, few) in zip(one, other):
        found = compared(high, low) or many - few
        if found:
            return found
    return len(one) - len(other)


def row_told(levels, text):
    """The row of so many levels with this text, or None."""
    row = [ordinal_told(part) for part in text.split(",")]
    if None in row or len(row) != levels:
        return None
    for one, other in zip(row, row[1:]):
        end = one[-1][0] if one else ()
        if compared(other, end) > 0:
            return None
    return tuple(row)


def sentence_told(levels, text):
    """The sentence of so many levels with this text, or None."""
    found, behind = sentence_at(levels, text, 0)
    return found if behind == len(text) else None


def sentence_at(levels, text, at):
    """The sentence that begins at a place of a text, and the place behind it; or None and -1."""
    if text.startswith("not ", at):
        part, behind = sentence_at(levels, text, at + 4)
        return (("not", part), behind) if part else (None, -1)
    head = re.compile("shown ([0-2]) ").match(text, at)
    if head:
        part, behind = sentence_at(levels, text, head.end())
        return (("shown", int(head[1]), part), behind) if part and int(head[1]) < levels else (None, -1)
    if text.startswith("(", at):
        return pair_at(levels, text, at)
    word = re.compile("[a-z]*").match(text, at)
    if word[0] in ("true", "false"):
        return (word[0],), word.end()
    if word[0] in RESERVED or not 1 <= len(word[0]) <= 6:
        return None, -1
    return ("name", word[0]), word.end()


def pair_at(levels, text, at):
    one, behind = sentence_at(levels, text, at + 1)
    middle = re.compile(" (and|or|then) ").match(text, behind) if one else None
    if not middle:
        return None, -1
    other, behind = sentence_at(levels, text, middle.end())
    if not other or not text.startswith(")", behind):
        return None, -1
    return (middle[1], one, other), behind + 1


def spoilt(text, signs):
    """The text with each sign left out, doubled, exchanged with the next one or another one, or one put in."""
    for at in range(len(text) + 1):
        for sign in signs:
            yield text[:at] + sign + text[at:]
            yield text[:at] + sign + text[at + 1:]
        yield text[:at] + text[at + 1:]
        yield text[:at] + text[at + 1:at + 2] + text[at:at + 1] + text[at + 2:]
        yield text[:at]
        yield text[at:]


def ascending(ordinals):
    return sorted(ordinals, key=cmp_to_key(compared))
