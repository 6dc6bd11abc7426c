"""Books: a tree and a source under a sequence of actions."""

from tellrounds.actions import check_vertices, count_arguments, read_batch, tree_after
from tellrounds.errors import (
    BatchFailed, Busy, InBranch, InvalidBatch, InvalidDelay, InvalidTree, LastVertex, NoSuchEdge, NoSuchStep,
    NoSuchVertex, NothingToUndo, NotLeaf, TooMany, TooManyActions, TooSlow,
)
from tellrounds.kinds import is_between
from tellrounds.needs import all_needs, best_sources, need_from
from tellrounds.schedules import best_schedule, walk_calls
from tellrounds.texts import parse_tree
from tellrounds.trees import find_fault

LOG_ROWS = 10


class Book:
    """A tree, a source, and the actions that are kept.

    The tuples in states, kept and rows are never changed but replaced, so
    that a failed batch and a copy need no more than the old tuples.
    """

    LIMIT = 60

    def __init__(self, tree):
        fault = find_fault(tree)
        if fault is not None:
            path, reason = fault
            raise InvalidTree(path, reason)
        self.states = (tree,)
        self.kept = ()
        self.start = 0
        self.rows = ()
        self.busy = False

    @classmethod
    def read(cls, text):
        """Return a new book of the tree with this text."""
        return cls(parse_tree(text))

    @classmethod
    def single(cls):
        """Return a new book of the tree with one vertex."""
        return cls((1, ()))

    @classmethod
    def of_tree(cls, tree):
        """Return a new book of the tree."""
        return cls(tree)

    @staticmethod
    def size_of(name):
        """Return the number of arguments of the action with this name, None if there is none."""
        return count_arguments(name)

    def change_delay(self, vertex, away, delay):
        """Set the delay of the edge between vertex and away."""
        self.act(("change_delay", vertex, away, delay))

    def grow(self, vertex, delay):
        """Add a leaf at the vertex."""
        self.act(("grow", vertex, delay))

    def prune(self, vertex):
        """Remove a leaf."""
        self.act(("prune", vertex))

    def move(self, vertex, away, target):
        """Let the branch of the vertex away from away hang at the target."""
        self.act(("move", vertex, away, target))

    def act(self, action):
        """Perform one action outside of a batch."""
        self.check_idle()
        self.perform(action)

    def check_idle(self):
        """Raise an error during a batch."""
        if self.busy:
            raise Busy()

    def perform(self, action):
        """Perform one action, also within a batch, and keep it."""
        if len(self.kept) >= self.LIMIT:
            raise TooManyActions()
        tree = tree_after(self.states[-1], action)
        self.check_speed(tree)
        self.states = (*self.states, tree)
        self.kept = (*self.kept, action)
        self.check_source()

    def check_speed(self, tree):
        """Raise an error if the book does not take the tree. A plain book takes all trees."""

    def check_source(self):
        """Start at 0 again if the source is not a vertex any more."""
        if self.start >= self.states[-1][0]:
            self.start = 0

    def undo(self):
        """Revert the last action that is kept."""
        self.check_idle()
        if len(self.kept) == 0:
            raise NothingToUndo()
        self.states = self.states[:-1]
        self.kept = self.kept[:-1]
        self.check_source()

    def run(self, batch, *, on_step=None):
        """Perform all actions of the batch, or none."""
        self.check_idle()
        actions = read_batch(batch)
        if actions is None:
            raise InvalidBatch()
        states, kept, start, done = self.states, self.kept, self.start, 0
        self.rows = (*self.log(), ("begin", len(actions)))
        self.busy = True
        try:
            for at, action in enumerate(actions):
                self.perform_at(at, action)
                if on_step is not None:
                    on_step(self)
            states, kept, start, done = self.states, self.kept, self.start, len(actions)
        finally:
            # Only a batch that has come to its end has new values here.
            self.states, self.kept, self.start = states, kept, start
            self.rows = self.rows + (("end", done),)
            self.busy = False

    def perform_at(self, at, action):
        """Perform the action with this index of a batch."""
        try:
            self.perform(action)
        except (
            TooManyActions, NoSuchVertex, NoSuchEdge, InvalidDelay, TooMany, LastVertex, NotLeaf, InBranch, TooSlow,
        ):
            raise BatchFailed(at)

    def log(self):
        """Return the last rows about batches."""
        return self.rows[-LOG_ROWS:]

    @property
    def source(self):
        """The vertex that the message starts from."""
        return self.start

    def start_at(self, value):
        """Make the value the source."""
        self.check_idle()
        check_vertices(self.states[-1], (value,))
        self.start = value

    @property
    def need(self):
        """The need from the source."""
        return need_from(self.states[-1], self.start)

    @property
    def best(self):
        """The best sources of the current tree."""
        return best_sources(self.states[-1])

    def tree(self):
        """Return the current tree."""
        return self.states[-1]

    def needs(self):
        """Return the needs from all vertices."""
        return all_needs(self.states[-1])

    def schedule(self):
        """Return the best schedule for the source."""
        return best_schedule(self.states[-1], self.start)

    def walk(self):
        """Yield the calls of the best schedule for the source."""
        tree = self.states[-1]
        source = self.start
        for call in walk_calls(tree, source):
            yield call

    def actions(self):
        """Return the actions that are kept."""
        return self.kept

    def state_at(self, step):
        """Return the tree after the first step kept actions."""
        if not is_between(step, 0, len(self.kept)):
            raise NoSuchStep(step)
        return self.states[step]

    def copy(self):
        """Return an equal book of the same class with its own actions, idle and with an empty log."""
        # The class has taken the first tree before, whatever else it asks of a tree.
        copied = self.of_tree(self.states[0])
        copied.states = self.states
        copied.kept = self.kept
        copied.start = self.start
        return copied

    def likeness(self):
        """Return what equal books have in common."""
        return self.states[-1], self.start

    def __len__(self):
        return len(self.kept)

    def __eq__(self, other):
        return isinstance(other, Book) and self.likeness() == other.likeness()

    def __str__(self):
        return f"{self.states[-1][0]} vertices, need {self.need} from {self.start}, {len(self.kept)} actions"


class SwiftBook(Book):
    """A book that takes only trees whose least need of all sources is within a bound, if there is one."""

    def __init__(self, tree, most=None):
        super().__init__(tree)
        self.bound = most
        self.check_speed(tree)

    def check_speed(self, tree):
        """Raise an error if no source of the tree has a need within the bound."""
        if self.bound is None:
            return
        least = min(all_needs(tree))
        if least > self.bound:
            raise TooSlow(least)

    def copy(self):
        """Return an equal book of the same class, with the same bound."""
        copied = super().copy()
        copied.bound = self.bound
        return copied

    def likeness(self):
        """Return what equal books with a bound have in common."""
        return self.states[-1], self.start, self.bound
