"""A page that is kept line by line, with undo and redo, for the tests. It knows nothing of the package."""

import copy

from tests.support import Model, compress


class Impossible(Exception):
    """An action that is not possible."""


class PageModel:
    """The answers of a page, found from the list of its actions alone."""

    def __init__(self, counts):
        self.start = dict(counts)
        self.done = []
        self.undone = []
        self.build()

    def build(self):
        """Performs all actions again."""
        self.model = Model(dict(self.start))
        self.gone = []
        for index, action in enumerate(self.done):
            self.perform_on_model(index, action)

    def perform_on_model(self, index, action):
        writer = action[1]
        if action[0] != "leave":
            try:
                self.model.perform(index, action)
            except AssertionError:
                raise Impossible from None
            return
        if writer in self.gone:
            raise Impossible
        self.gone.append(writer)
        self.model.line_counts[writer] = self.model.saved[writer]
        self.model.copies.pop(writer, None)
        self.model.fresh.pop(writer, None)

    def perform(self, action):
        kept = copy.deepcopy((self.model, self.gone))
        try:
            self.perform_on_model(len(self.done), action)
        except Impossible:
            self.model, self.gone = kept
            raise
        self.done.append(action)
        self.undone = []

    def undo(self):
        if not self.done:
            raise Impossible
        self.undone.append(self.done.pop())
        self.build()

    def redo(self):
        if not self.undone:
            raise Impossible
        self.done.append(self.undone.pop())
        self.build()

    def fork(self):
        return copy.deepcopy(self)

    def state(self):
        copies = {holder: compress(held) for holder, held in self.model.copies.items()}
        return (dict(self.model.saved), compress(self.model.page), copies)


def perform_on_page(page, action):
    if action[0] == "read":
        page.read_page(action[1])
    elif action[0] == "save":
        page.save_line(action[1])
    elif action[0] == "append":
        page.append_lines(action[1], action[2])
    else:
        page.leave(action[1])


def random_action(chance, counts, longest=3):
    """An action that need not be possible."""
    writer = chance.choice(sorted(counts))
    word = chance.choice(["read", "save", "append"] * 4 + ["leave"])
    return (word, writer, chance.randint(1, longest)) if word == "append" else (word, writer)


def answers_of(page):
    """All answers of a page, for comparisons."""
    counts = page.line_counts()
    return (counts, page.content(), {name: page.held_copy(name) for name in counts},
            {name: page.remaining(name) for name in counts}, page.state(), page.overwrite_count(),
            page.schedule(), len(page), page.possible_bases(), page.guaranteed_lines(),
            page.permanently_lost())


def answers_of_model(model):
    """The same answers, except for the last three."""
    state = model.state()
    counts = dict(model.model.line_counts)
    held = {name: state[2].get(name) for name in counts}
    left = {name: counts[name] - state[0][name] for name in counts}
    return (counts, state[1], held, left, state, len(model.model.overwriting), list(model.done),
            len(model.done))
