"""The meaning of a sentence whose names have meanings."""

from vowstair.errors import LevelsDiffer, UnknownName
from vowstair.meanings import Meaning
from vowstair.rows import check_levels
from vowstair.sentences import check_sentence, names_in, numbered


def meaning_of(levels, sentence, *, names=()):
    """The meaning of a sentence; names is a list of pairs (name, Meaning)."""
    check_levels(levels)
    check_sentence(levels, sentence)
    given = {}
    for name, meaning in names:
        given[name] = meaning
    for name in names_in(sentence):
        if name not in given:
            raise UnknownName(name)
        if given[name].levels != levels:
            raise LevelsDiffer()
    found = []
    for head, parts in numbered(sentence):
        found.append(_meaning(levels, head, [found[place] for place in parts], given))
    return found[-1]


def _meaning(levels, head, parts, given):
    """The meaning of a node whose parts have these meanings."""
    word = head[0]
    if word == "true":
        return Meaning.always(levels)
    if word == "false":
        return Meaning.never(levels)
    if word == "name":
        return given[head[1]]
    if word == "shown":
        return parts[0].shown(head[1])
    if word == "not":
        return -parts[0]
    if word == "and":
        return parts[0] * parts[1]
    if word == "or":
        return parts[0] + parts[1]
    return -parts[0] + parts[1]
