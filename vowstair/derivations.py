"""Derivations: steps that show sentences to be valid, and which of them are right."""

from vowstair.errors import UnknownName
from vowstair.sentences import check_sentence, distinct, names_in, outer_nodes

_MOST_LETTERS = 8


def derivation_holds(book, steps):
    """Whether all steps (sentence, rule, sources) are right."""
    return first_gap(book, steps) is None


def first_gap(book, steps):
    """The index of the first step that is not right, or None."""
    _check_steps(book, steps)
    for at in range(len(steps)):
        if not _is_right(book, steps, at):
            return at
    return None


def _check_steps(book, steps):
    for index, (sentence, rule, sources) in enumerate(steps):
        check_sentence(book.levels, sentence, index=index)
    for sentence, rule, sources in steps:
        for name in names_in(sentence):
            if name not in book:
                raise UnknownName(name)


def _is_right(book, steps, at):
    sentence, rule, sources = steps[at]
    for source in sources:
        if source < 0 or source >= at:
            return False
    before = [steps[source][0] for source in sources]
    if rule == "box":
        return len(before) == 1 and _is_box(sentence, before[0])
    if rule == "cut":
        return len(before) == 2 and before[1] == ("then", before[0], sentence)
    return len(before) == 0 and _is_start(book, sentence, rule)


def _is_box(sentence, before):
    return sentence[0] == "shown" and sentence[2] == before


def _is_start(book, sentence, rule):
    """Whether a sentence is right by a rule without sources."""
    if rule == "truth":
        return _is_truth(sentence)
    if sentence[0] != "then":
        return False
    one, other = sentence[1:]
    if rule == "book":
        return _is_said(book, one, other) or _is_said(book, other, one)
    if rule == "spread":
        return _is_spread(one, other)
    if rule == "self":
        return _is_self(one, other)
    if rule == "rise":
        return _is_rise(one, other)
    return rule == "mark" and _is_mark(one, other)


def _is_said(book, name, sentence):
    return name[0] == "name" and book[name[1]] == sentence


def _is_spread(one, other):
    if one[0] != "shown" or one[2][0] != "then":
        return False
    level, (_, part, behind) = one[1:]
    return other == ("then", ("shown", level, part), ("shown", level, behind))


def _is_self(one, other):
    return other[0] == "shown" and one == ("shown", other[1], ("then", other, other[2]))


def _is_rise(one, other):
    return one[0] == "shown" and other == ("shown", one[1] + 1, one[2])


def _is_mark(one, other):
    return one[0] == "not" and one[1][0] == "shown" and other == ("shown", one[1][1] + 1, one)


def _is_truth(sentence):
    """Whether a sentence is true for all truth values of its letters, which are not too many."""
    letters = distinct([node for node in outer_nodes(sentence) if node[0] in ("name", "shown")])
    if len(letters) > _MOST_LETTERS:
        return False
    # Each row of truth values is a bit of all these numbers.
    rows = 1 << len(letters)
    full = (1 << rows) - 1
    stack = []
    for node in outer_nodes(sentence)[::-1]:
        if node[0] in ("name", "shown"):
            stack.append(_letter_rows(letters.index(node), rows))
        else:
            # Backwards, the parts of a node come just before it, the first one last.
            stack.append(_true_rows(node[0], [stack.pop() for _ in node[1:]], full))
    return stack[0] == full


def _letter_rows(letter, rows):
    """The rows in which a letter is true, as the bits of a number."""
    return sum([1 << row for row in range(rows) if (row >> letter) & 1 == 1])


def _true_rows(word, parts, full):
    """The rows in which a sentence is true, as the bits of a number, from those of its parts."""
    if word == "true":
        return full
    if word == "false":
        return 0
    if word == "not":
        return full ^ parts[0]
    if word == "and":
        return parts[0] & parts[1]
    if word == "or":
        return parts[0] | parts[1]
    return (full ^ parts[0]) | parts[1]
