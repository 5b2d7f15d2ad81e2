"""A store told a second time, as a list of pairs, for tests."""

from vowstair.books import Book
from vowstair.errors import InvalidCommand, TooMany, VowError
from vowstair.errors import DuplicateName, InvalidName, InvalidSentence, NothingLeft, UnknownName
from vowstair.sentences import FALSE, TRUE, is_name, is_sentence


def exchanged(sentence, name, other):
    """The sentence in which another one stands for a name."""
    if sentence == ("name", name):
        return other
    return tuple([exchanged(part, name, other) if isinstance(part, tuple) else part for part in sentence])


def behind(levels, pairs, command, index):
    """The pairs behind a command, as [14] says it."""
    word, name, names = command[0], command[1], [old for old, _ in pairs]
    if word == "say":
        if not is_name(name):
            raise InvalidName(name)
        if not is_sentence(levels, command[2]):
            raise InvalidSentence(index)
        return [(old, command[2] if old == name else told) for old, told in pairs] + [command[1:]] * (name not in names)
    if name not in names:
        raise UnknownName(name)
    if word == "unsay":
        return [pair for pair in pairs if pair[0] != name]
    if word == "inline":
        said = dict(pairs)[name]
        return [(old, told if old == name else exchanged(told, name, said)) for old, told in pairs]
    other = command[2]
    if not is_name(other):
        raise InvalidName(other)
    if other in names:
        raise DuplicateName(other)
    return [(other if old == name else old, exchanged(told, name, ("name", other))) for old, told in pairs]


class Model:
    """What a store is, told by whole copies: the pairs of each step, and a place among them."""

    def __init__(self, levels, limit):
        self.levels, self.limit = levels, limit
        self.states, self.place = [[]], 0
        self.kept, self.solved = [], 0

    def pairs(self):
        return self.states[self.place]

    def do_all(self, commands):
        for index, command in enumerate(commands):
            if command[:1] not in (("say",), ("unsay",), ("rename",), ("inline",)):
                raise InvalidCommand(index)
            if len(command) != (3 if command[0] in ("say", "rename") else 2):
                raise InvalidCommand(index)
        pairs = self.pairs()
        for index, command in enumerate(commands):
            pairs = behind(self.levels, pairs, command, index)
        if len(pairs) > self.limit:
            raise TooMany(self.limit)
        Book(self.levels, pairs)
        old = self.pairs()
        self.states = self.states[:self.place + 1] + [pairs]
        self.place += 1
        self.forget(old)

    def turn(self, by):
        if not 0 <= self.place + by < len(self.states):
            raise NothingLeft()
        old = self.pairs()
        self.place += by
        self.forget(old)

    def forget(self, old):
        if old != self.pairs():
            self.kept = []

    def ask(self, sentence):
        book = Book(self.levels, self.pairs())
        meaning = book.meaning(sentence)
        if sentence not in self.kept:
            self.kept.append(sentence)
            self.solved += 1
        return meaning

    def facts(self):
        """All that can be seen of a store."""
        return (self.pairs(), self.limit, (self.place, len(self.states) - 1 - self.place), self.kept, self.solved)


def facts(store):
    return (store.book().pairs(), store.limit, store.history(), store.kept(), store.solved)


def outcome(call, *values):
    """What a call returns, or the error that it raises, as a value that can be compared."""
    try:
        return call(*values)
    except (VowError, UnknownName, NothingLeft) as error:
        return (type(error), vars(error))


def drawn_command(drawing, levels, names):
    """A command that is right more often than not."""
    name = drawing.choice(names + ["Q", "true"] * (drawing.random() < 0.1))
    sentence = drawing.sentence(levels, names, drawing.randint(1, 6))
    if drawing.random() < 0.05:
        sentence = drawing.choice([None, (), ("name", 3), ("shown", levels, TRUE), ("not", FALSE, FALSE), True])
    forms = [("say", name, sentence)] * 5 + [("unsay", name), ("rename", name, drawing.choice(names)), ("inline", name)]
    if drawing.random() < 0.03:
        return drawing.choice([(), ("say",), ("say", name), ("unsay", name, name), ("undo",), ("", name), ("inline",)])
    return drawing.choice(forms)
