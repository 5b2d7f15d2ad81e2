"""The solution of a book: which slots stand from which ordinals on.

What stands at a row depends only on which slots stand there. So a ladder
tells the solution: its steps say, level by level, which slots stand.
"""

from vowstair.ordinals import ZERO, successor
from vowstair.sentences import distinct, outer_nodes, slots_in
from vowstair.stairs import least_missing, reached


def slots_together(sentences):
    """The list of the slots of several sentences, in order, without duplicates."""
    found = []
    for sentence in sentences:
        found.extend(slots_in(sentence))
    return distinct(found)


class Solution:
    """Where the slots of a book stand, and those of further sentences beside it.

    Each sentence is kept as a number: the place of its line in a list, behind
    the lines of its parts. A line is a word and the numbers of the parts, or
    "slot" and the index of a slot; a name has the number of its sentence.
    """

    def __init__(self, levels, pairs, sentences):
        self._levels = levels
        self._slots = slots_together([sentence for name, sentence in pairs] + sentences)
        self._lines = []
        self._places = {}
        self._truths = {}
        roots = {}
        # No name of a book is open, so the order of the pairs does not matter.
        for name, sentence in pairs:
            roots[name] = self._compiled(sentence, roots)
        self._bodies = [self._compiled(sentence, roots) for level, sentence in self._slots]
        self._told = [self._compiled(sentence, roots) for sentence in sentences]
        self._ladder = self._ladder_from(0, ())

    def ladder(self):
        """The ladder as [11] describes it, with the slots of the further sentences."""
        return self._ladder

    def body_stair(self, index, stands, ladder):
        """The stair of the rests at which the sentence of a slot stands.

        stands are the indexes of the slots that stand at the places before,
        and ladder is the one for the places of the rest.
        """
        return self._stair_of(self._bodies[index], stands, ladder)

    def told_stair(self, at):
        """A stair of the rows at which a further sentence stands."""
        return self._stair_of(self._told[at], (), self._ladder)

    def is_told(self, at, stands):
        """Whether a further sentence stands at the rows where just these slots stand."""
        return self._truth(self._told[at], stands)

    def _compiled(self, sentence, roots):
        """The number of a sentence; roots has the numbers of its open names."""
        stack = []
        for node in outer_nodes(sentence)[::-1]:
            if node[0] == "name":
                stack.append(roots[node[1]])
            elif node[0] == "shown":
                stack.append(self._placed(("slot", self._slots.index(node[1:]))))
            else:
                parts = tuple([stack.pop() for _ in node[1:]])
                stack.append(self._placed((node[0],) + parts))
        return stack[0]

    def _placed(self, line):
        """The number of a line, the same one for equal lines."""
        if line not in self._places:
            self._places[line] = len(self._lines)
            self._lines.append(line)
        return self._places[line]

    def _truth(self, number, stands):
        """Whether a sentence is true where just these slots stand."""
        if stands not in self._truths:
            found = []
            for line in self._lines:
                found.append(_line_truth(line, found, stands))
            self._truths[stands] = found
        return self._truths[stands][number]

    def _stair_of(self, number, stands, ladder):
        if ladder is None:
            return self._truth(number, stands)
        return tuple([
            (begin, self._stair_of(number, stands + standing, inner)) for begin, standing, falls, inner in ladder
        ])

    def _ladder_from(self, level, stands):
        """The ladder for a level, where these slots of lower levels stand."""
        if level == self._levels:
            return None
        steps = []
        begin = ZERO
        standing = tuple([index for index, slot in enumerate(self._slots) if slot[0] == level])
        while True:
            inner = self._ladder_from(level + 1, stands + standing)
            falls = self._falls(level, begin, stands + standing, standing, inner)
            steps.append((begin, standing, falls, inner))
            if falls == ():
                return steps
            fallen = [index for index, row in falls]
            standing = tuple([index for index in standing if index not in fallen])
            begin = behind_fall(begin, falls[0][1])

    def _falls(self, level, begin, stands, standing, inner):
        """The pairs (index, row) of the slots that fall first, with the least rows."""
        found = []
        for index in standing:
            rest = least_missing(self._levels - level - 1, self.body_stair(index, stands, inner))
            if rest is not None:
                found.append((index, rest))
        first = min([reached(begin, rest) for index, rest in found], default=None)
        return tuple([fall for fall in found if reached(begin, fall[1]) == first])


def behind_fall(begin, rest):
    """Where the step behind one from begin on begins, if a slot falls for this rest."""
    return successor(reached(begin, rest))


def _line_truth(line, found, stands):
    """Whether a line is true; found has the truth of the lines before it."""
    word = line[0]
    if word == "slot":
        return line[1] in stands
    if word in ("true", "false"):
        return word == "true"
    first = found[line[1]]
    if word == "not":
        return not first
    second = found[line[2]]
    if word == "and":
        return first and second
    if word == "or":
        return first or second
    return not first or second
