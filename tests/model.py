"""A plain model of a book, made straight from the words of the document, to compare with."""

from tests.oracles import delays_of, rename
from tests.samples import GREATEST, MOST, all_distances, make_tree

ACTIONS = {"change_delay": 3, "grow": 2, "prune": 1, "move": 3}
KEPT = 60


class Wrong(Exception):
    """The error that the document names, with its fields."""

    def __init__(self, name, *fields):
        self.name = name
        self.fields = fields


def fields_of(error):
    """Return the name of an error of the package and its fields, as its constructor took them."""
    return type(error).__name__, error.args


def is_vertex(tree, value):
    return type(value) is int and 0 <= value < tree[0]


def is_delay(value):
    return type(value) is int and 1 <= value <= GREATEST


def branch_by_distance(tree, vertex, away):
    table = all_distances(tree)
    return [k for k in range(tree[0]) if table[k][vertex] < table[k][away]]


def with_edge(tree, vertex, away, edge):
    """Return the tree with another edge in the place of the one between vertex and away."""
    return make_tree(tree[0], [row for row in tree[1] if set(row[:2]) != {vertex, away}] + [edge])


def right_tree(tree, name, *values):
    """Return the tree after an action, or raise the error that comes first."""
    for value in values[:{"change_delay": 2, "grow": 1, "prune": 1, "move": 3}[name]]:
        if not is_vertex(tree, value):
            raise Wrong("NoSuchVertex", value)
    vertex = values[0]
    if name in ("change_delay", "move"):
        delay = delays_of(tree).get((vertex, values[1]))
        if delay is None:
            raise Wrong("NoSuchEdge", *values[:2])
        if name == "move":
            if values[2] in branch_by_distance(tree, vertex, values[1]):
                raise Wrong("InBranch", values[2])
            return with_edge(tree, vertex, values[1], (vertex, values[2], delay))
    if name in ("change_delay", "grow") and not is_delay(values[-1]):
        raise Wrong("InvalidDelay", values[-1])
    if name == "change_delay":
        return with_edge(tree, vertex, values[1], (vertex, values[1], values[2]))
    if name == "grow":
        if tree[0] == MOST:
            raise Wrong("TooMany")
        return make_tree(tree[0] + 1, [*tree[1], (vertex, tree[0], values[1])])
    if tree[0] == 1:
        raise Wrong("LastVertex")
    kept = [edge for edge in tree[1] if vertex not in edge[:2]]
    if len(kept) < len(tree[1]) - 1:
        raise Wrong("NotLeaf", vertex)
    return rename((tree[0] - 1, tuple(kept)), [k - (k > vertex) for k in range(tree[0])])


def least_need(tree):
    """Return the least need of all sources, by keys in descending order."""
    delays = delays_of(tree)

    def need(vertex, away):
        keys = [delays[vertex, k] + need(k, vertex)
                for k in range(tree[0]) if (vertex, k) in delays and k != away]
        return max([at + key for at, key in enumerate(sorted(keys, reverse=True))], default=0)

    return min(need(vertex, None) for vertex in range(tree[0]))


class Model:
    """A book without batches: its trees, its actions and its source."""

    def __init__(self, tree, most=None):
        self.trees = [tree]
        self.actions = []
        self.source = 0
        self.most = most

    @property
    def tree(self):
        return self.trees[-1]

    def act(self, name, *values):
        if len(self.actions) == KEPT:
            raise Wrong("TooManyActions")
        tree = right_tree(self.tree, name, *values)
        if self.most is not None and least_need(tree) > self.most:
            raise Wrong("TooSlow", least_need(tree))
        self.trees.append(tree)
        self.actions.append((name, *values))
        self.correct_source()

    def undo(self):
        if not self.actions:
            raise Wrong("NothingToUndo")
        self.trees.pop()
        self.actions.pop()
        self.correct_source()

    def start_at(self, value):
        if not is_vertex(self.tree, value):
            raise Wrong("NoSuchVertex", value)
        self.source = value

    def correct_source(self):
        if self.source >= self.tree[0]:
            self.source = 0

    def run(self, actions):
        """Perform all actions or none; raise the error with the index of the action that failed."""
        before = (list(self.trees), list(self.actions), self.source)
        for at, action in enumerate(actions):
            try:
                self.act(*action)
            except Wrong:
                self.trees, self.actions, self.source = before
                raise Wrong("BatchFailed", at) from None

    def do(self, name, *values):
        """Perform a call of a method that changes the book."""
        if name in ACTIONS:
            self.act(name, *values)
        else:
            getattr(self, name)(*values)


def state_of(book):
    """Return what the calls of a book can change, except for the log."""
    return book.tree(), book.source, book.actions(), [book.state_at(step) for step in range(len(book) + 1)]


def answers_of(book):
    """Return what all queries of a book return, except for the log."""
    return (
        book.tree(), book.source, book.need, book.best, book.needs(), book.schedule(), list(book.walk()),
        *state_of(book)[2:], len(book), str(book),
    )


def outcome_of(call, *values):
    """Return None if the call returns None, otherwise the name and the fields of the error that it raises."""
    try:
        found = call(*values)
    except (ValueError, LookupError) as error:
        return fields_of(error)
    except Wrong as wrong:
        return wrong.name, wrong.fields
    if found is not None:
        raise AssertionError(f"{found!r} in the place of None")
    return None
