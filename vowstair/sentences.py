"""Sentences: tuples of a word and what it speaks of, and what occurs in them.

Nothing here calls itself for the parts of a sentence: a sentence may be
nested deeper than calls can be.
"""

from vowstair.errors import InvalidSentence

TRUE = ("true",)
FALSE = ("false",)

_RESERVED = ("true", "false", "not", "and", "or", "then", "shown")
_LONGEST_NAME = 6

# A node consists of a head, which is its word and perhaps a name or a level,
# and of its parts.
_HEADS = {"true": 1, "false": 1, "name": 2, "not": 1, "and": 1, "or": 1, "then": 1, "shown": 2}
_PARTS = {"true": 0, "false": 0, "name": 0, "not": 1, "and": 2, "or": 2, "then": 2, "shown": 1}


def is_name(text):
    """Whether a string is a name."""
    if not isinstance(text, str) or text in _RESERVED:
        return False
    if len(text) < 1 or len(text) > _LONGEST_NAME:
        return False
    return all(["a" <= sign <= "z" for sign in text])


def is_sentence(levels, value):
    """Whether any nested value is a sentence."""
    stack = [value]
    while stack:
        node = stack.pop()
        if not _is_node(levels, node):
            return False
        stack.extend(parts_of(node))
    return True


def _is_node(levels, value):
    """Whether a value has the form of a node, whatever its parts are."""
    if not isinstance(value, tuple) or len(value) == 0:
        return False
    word = value[0]
    if not isinstance(word, str) or word not in _HEADS:
        return False
    if len(value) != _HEADS[word] + _PARTS[word]:
        return False
    if word == "name":
        return is_name(value[1])
    return word != "shown" or _is_level(levels, value[1])


def _is_level(levels, value):
    # True is an int to Python, but it is no level here.
    return isinstance(value, int) and not isinstance(value, bool) and 0 <= value < levels


def check_sentence(levels, value, *, index=0):
    """Raise InvalidSentence(index) unless the value is a sentence."""
    if not is_sentence(levels, value):
        raise InvalidSentence(index)


def parts_of(node):
    """The parts of a node, from left to right."""
    return node[_HEADS[node[0]]:]


def nodes_of(sentence):
    """Yield the nodes, each one before its parts, parts from left to right."""
    stack = [sentence]
    while stack:
        node = stack.pop()
        yield node
        stack.extend(parts_of(node)[::-1])


def outer_nodes(sentence):
    """The list of the nodes, in the same order, that are not inside of a node with shown."""
    found = []
    stack = [sentence]
    while stack:
        node = stack.pop()
        found.append(node)
        if node[0] != "shown":
            stack.extend(parts_of(node)[::-1])
    return found


def distinct(things):
    """The list of the things without duplicates, in the order of their first occurrences."""
    found = []
    for thing in things:
        if thing not in found:
            found.append(thing)
    return found


def size_of(sentence):
    """The number of nodes."""
    return len(list(nodes_of(sentence)))


def names_in(sentence):
    """The list of the names."""
    return distinct([node[1] for node in nodes_of(sentence) if node[0] == "name"])


def slots_in(sentence):
    """The list of the slots, pairs (level, sentence)."""
    return distinct([node[1:] for node in nodes_of(sentence) if node[0] == "shown"])


def open_names(sentence):
    """The list of the names that occur outside of all nodes with shown."""
    return distinct([node[1] for node in outer_nodes(sentence) if node[0] == "name"])


def numbered(sentence):
    """The different nodes as pairs (head, places of the parts in this list), parts first.

    The last pair is the sentence itself.
    """
    places = {}
    stack = []
    # Backwards, the parts of a node come just before it, the first one last.
    for node in list(nodes_of(sentence))[::-1]:
        parts = tuple([stack.pop() for _ in parts_of(node)])
        pair = (node[:_HEADS[node[0]]], parts)
        if pair not in places:
            places[pair] = len(places)
        stack.append(places[pair])
    return list(places)


def replaced(sentence, names):
    """The sentence in which the names that are in a dict are replaced by its sentences."""
    found = []
    for head, parts in numbered(sentence):
        if head[0] == "name" and head[1] in names:
            found.append(names[head[1]])
        else:
            found.append(head + tuple([found[place] for place in parts]))
    return found[-1]
