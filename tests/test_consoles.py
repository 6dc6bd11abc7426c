import copy
import random
import re
import unittest

from tellrounds.books import Book, SwiftBook
from tellrounds.consoles import Console
from tests.model import Model, Wrong, answers_of, is_delay, least_need, outcome_of, state_of
from tests.oracles import callers_by_distance, delays_of, least_branch_finish, least_finish
from tests.samples import D, GREATEST, LARGE, MIXED_SMALL, MOST, T, heap_tree, make_tree, star_tree, vary_delays
from tests.values import JUNK

ONE = (1, ())
PAIR = (2, ((0, 1, 3),))
THIRTEEN = 10 ** 13 - 1
NUMBER = re.compile(r"0|-?[1-9][0-9]{0,12}")
CHANGES = {"delay": ("change_delay", 3), "grow": ("grow", 2), "prune": ("prune", 1), "move": ("move", 3),
           "undo": ("undo", 0), "start": ("start_at", 1)}
QUERIES = {"need": 0, "source": 0, "needs": 0, "best": 0, "schedule": 0, "latest": 1, "free": 1}
COMMANDS = {name: many for name, (_, many) in CHANGES.items()} | QUERIES
ODD_NUMBERS = ("", "-0", "+1", "01", "00", "-01", "1.0", "1e1", "0x1", "1_0", "--1", "-", "x", "None", "True", " 1",
               "1\n", "\t1", str(THIRTEEN + 1), str(-THIRTEEN - 1), "0" * 13, "\u0661", "1-", "(1)")
LIMITS = (0, 1, -1, GREATEST, GREATEST + 1, THIRTEEN, -THIRTEEN, THIRTEEN - 1)


def right_answer(model, name, numbers):
    """Return the answer to a query, by trying all orders of calls."""
    tree, source = model.tree, model.source
    if name == "source":
        return str(source)
    if name == "need":
        return str(least_finish(tree, source))
    needs = [least_finish(tree, vertex) for vertex in range(tree[0])]
    if name == "needs":
        return " ".join(map(str, needs))
    if name == "best":
        return " ".join(str(vertex) for vertex in range(tree[0]) if needs[vertex] == min(needs))
    if name == "latest":
        if numbers[0] < 0:
            return "error OutOfRange"
        if numbers[0] < needs[source]:
            return "-"
        callers = callers_by_distance(tree, source)
        return " ".join(str(numbers[0] - least_branch_finish(tree, k, callers[k])) for k in range(tree[0]))
    if name == "free":
        if not is_delay(numbers[0]):
            return "error InvalidDelay"
        grown = [make_tree(tree[0] + 1, [*tree[1], (k, tree[0], numbers[0])]) for k in range(tree[0])]
        free = [str(k) for k in range(tree[0]) if least_finish(grown[k], source) == needs[source]]
        return " ".join(free) or "-"
    return None


def right_schedule(tree, source):
    """Return the text of the best schedule: calls by falling keys, of equal ones the smaller vertex first."""
    delays = delays_of(tree)
    callers = callers_by_distance(tree, source)
    entries = {source: "-"}
    waiting = [(source, 0)]
    while waiting:
        vertex, arrival = waiting.pop()
        callees = [k for k in range(tree[0]) if callers[k] == vertex and k != source]
        callees.sort(key=lambda k: (-delays[vertex, k] - least_branch_finish(tree, k, vertex), k))
        for at, callee in enumerate(callees):
            entries[callee] = str(arrival + at)
            waiting.append((callee, arrival + at + delays[vertex, callee]))
    return " ".join(entries[k] for k in range(tree[0]))


def right_result(model, line):
    """Return what a console of the book has to answer, and perform it in the model."""
    if type(line) is not str:
        return "unknown"
    name, *words = line.split(" ")
    if len(words) != COMMANDS.get(name) or not all(NUMBER.fullmatch(word) for word in words):
        return "unknown"
    numbers = [int(word) for word in words]
    if name in CHANGES:
        try:
            model.do(CHANGES[name][0], *numbers)
        except Wrong as wrong:
            return f"error {wrong.name}"
        return "done"
    return right_schedule(model.tree, model.source) if name == "schedule" else right_answer(model, name, numbers)


class ConsoleTest(unittest.TestCase):
    def check(self, console, model, *lines):
        """Execute the lines, and compare the results, the book and the transcript."""
        for line in lines:
            pairs = console.transcript()
            before = state_of(console.book)
            expected = right_result(model, line)
            found = console.execute(line)
            self.assertEqual(found, expected, (model.tree, model.source, line))
            self.assertIs(type(found), str)
            after = (model.tree, model.source, tuple(model.actions), model.trees)
            self.assertEqual(state_of(console.book), after)
            if found != "done":
                self.assertEqual(state_of(console.book), before)
            shown = line if type(line) is str else None
            self.assertEqual(console.transcript(), (*pairs, (shown, found))[-20:])

    def pair(self, tree, most=None):
        book = Book(tree) if most is None else SwiftBook(tree, most)
        return Console(book), Model(tree, most)


class CommandsTest(ConsoleTest):
    def test_every_command_with_small_numbers(self):
        for tree in [ONE, PAIR, T, D, *MIXED_SMALL[:3]]:
            numbers = range(-1, tree[0] + 1)
            lines = ["undo", *[f"prune {k}" for k in numbers], *[f"start {k}" for k in numbers]]
            lines += [f"grow {k} {j}" for k in numbers for j in numbers]
            triples = [f"{k} {j} {i}" for k in numbers for j in numbers for i in numbers]
            lines += ["delay " + triple for triple in triples] + ["move " + triple for triple in triples]
            for line in lines:
                self.check(*self.pair(tree), line)

    def test_written_out(self):
        book = Book(T)
        console = Console(book)
        for line, result in (
            ("undo", "error NothingToUndo"), ("delay 0 1 7", "done"), ("need", "9"), ("grow 4 1", "done"),
            ("start 5", "done"), ("source", "5"), ("prune 5", "done"), ("source", "0"), ("move 3 1 0", "done"),
            ("schedule", "- 0 7 1 2"), ("move 3 0 4", "error InBranch"), ("move 3 1 4", "error NoSuchEdge"),
            ("prune 0", "error NotLeaf"), ("prune 9", "error NoSuchVertex"), ("delay 0 1 0", "error InvalidDelay"),
            ("undo", "done"), ("undo", "done"), ("undo", "done"), ("undo", "done"), ("undo", "error NothingToUndo"),
            ("needs", "3 3 3 3 4"), ("best", "0 1 2 3"), ("latest 3", "0 1 3 2 3"),
            ("latest 2", "-"), ("latest -1", "error OutOfRange"), ("free 1", "0"), ("free 2", "0"), ("free 3", "-"),
            ("free 0", "error InvalidDelay"), ("free 1000000001", "error InvalidDelay"), ("free 1000000000", "-"),
        ):
            self.assertEqual(console.execute(line), result, line)
        self.assertEqual(book.tree(), T)
        self.assertIs(console.book, book)
        self.assertEqual(Console(Book(ONE)).execute("prune 0"), "error LastVertex")
        self.assertEqual(Console(Book(ONE)).execute("needs"), "0")
        self.assertEqual(Console(Book(ONE)).execute("schedule"), "-")
        self.assertEqual(Console(Book(ONE)).execute("latest 0"), "0")
        self.assertEqual(Console(Book(ONE)).execute("free 1"), "-")
        self.assertEqual(Console(Book(heap_tree(MOST))).execute("grow 0 1"), "error TooMany")
        self.assertEqual(Console(Book(star_tree(MOST, 0))).execute("free 1"), " ".join(map(str, range(1, MOST))))
        self.assertEqual(Console(SwiftBook(T, 3)).execute("grow 1 1"), "error TooSlow")

    def test_full_books(self):
        book = Book(T)
        console = Console(book)
        for k in range(60):
            self.assertEqual(console.execute(f"delay 0 1 {k + 1}"), "done")
        for line in ("delay 0 1 1", "delay 9 9 9", "grow 0 0", "prune 9", "move 0 0 0"):
            self.assertEqual(console.execute(line), "error TooManyActions")
        self.assertEqual(console.execute("start 9"), "error NoSuchVertex")
        self.assertEqual(console.execute("start 4"), "done")
        self.assertEqual(console.execute("undo"), "done")
        self.assertEqual(console.execute("delay 9 9 9"), "error NoSuchVertex")

    def test_numbers_at_the_limits(self):
        for tree in (ONE, PAIR, T, vary_delays(star_tree(4, 0))):
            for name, many in COMMANDS.items():
                for at in range(many):
                    for number in LIMITS:
                        words = ["0", "1", "1"][:many]
                        words[at] = str(number)
                        self.check(*self.pair(tree), " ".join([name, *words]))

    def test_no_numbers(self):
        for name, many in COMMANDS.items():
            for at in range(many):
                for odd in ODD_NUMBERS:
                    words = ["0", "1", "1"][:many]
                    words[at] = odd
                    console, model = self.pair(T)
                    self.check(console, model, " ".join([name, *words]))
                    self.assertEqual(console.transcript()[-1][1], "unknown", words)

    def test_thirteen_digits(self):
        for name in ("latest", "free", "start", "prune"):
            for digits in range(1, 16):
                for sign in ("", "-"):
                    console = Console(Book(T))
                    result = console.execute(f"{name} {sign}{'9' * digits}")
                    self.assertEqual(result == "unknown", digits > 13)
        console = Console(Book(D))
        self.assertEqual(console.execute("latest 9999999999999"), "9999999999994 9999999999999 9999999999999")
        self.assertEqual(console.execute("latest 10000000000000"), "unknown")
        self.assertEqual(console.execute("latest -9999999999999"), "error OutOfRange")
        self.assertEqual(console.execute("latest -10000000000000"), "unknown")


class UnknownTest(ConsoleTest):
    def test_missing_and_further_words(self):
        for name, many in COMMANDS.items():
            for words in range(6):
                if words != many:
                    console, model = self.pair(T)
                    self.check(console, model, " ".join([name, *["1"] * words]))
                    self.assertEqual(console.transcript(), ((" ".join([name, *["1"] * words]), "unknown"),))

    def test_blanks_and_line_breaks(self):
        for name, many in COMMANDS.items():
            right = " ".join([name, *["0", "1", "1"][:many]])
            for line in (" " + right, right + " ", "\n" + right, right + "\n", right + "\r\n", "\t" + right,
                         right.replace(" ", "  ") if " " in right else right + "  ", right.replace(" ", "\t") + "\t",
                         right.replace(" ", "\n") + "\n", right.upper(), right.title(), right + ";", right + " #"):
                console, model = self.pair(T)
                self.check(console, model, line)
                self.assertEqual(console.transcript(), ((line, "unknown"),))

    def test_other_texts(self):
        for line in ("", " ", "\n", "-", "0", "1 2 3", "change_delay 0 1 2", "start_at 1", "run", "log", "tree", "walk",
                     "actions", "copy", "state_at 0", "needs needs", "needs;undo", "unknown", "done", "error", "None",
                     "read", "single", "size_of grow", "len", "str", "x" * 400, "undo undo", "Undo", "undo\x00"):
            console, model = self.pair(T)
            self.check(console, model, line)
            self.assertEqual(console.transcript(), ((line, "unknown"),))

    def test_values_that_are_no_texts(self):
        for value in [*JUNK, b"undo", ["undo"], ("undo",), {"undo": 0}, Book(T)]:
            before = copy.deepcopy(value)
            console, model = self.pair(T)
            self.check(console, model, value)
            self.assertEqual(console.transcript(), ((value if type(value) is str else None, "unknown"),))
            self.assertEqual(value, before)


class SequencesTest(ConsoleTest):
    def line(self, source, count):
        name = source.choice([*COMMANDS, "grow", "grow", "move", "move"])
        least = -1 if source.random() < 0.1 else 0
        numbers = [source.randrange(least, min(count, 4) + 1) for _ in range(COMMANDS[name])]
        return " ".join([name, *map(str, numbers)])

    def test_many_lines(self):
        for seed, tree in enumerate([ONE, PAIR, T, D, *MIXED_SMALL[:4]]):
            for most in (None, least_need(tree) + 1):
                source = random.Random(seed)
                console, model = self.pair(tree, most)
                for _ in range(60):
                    if model.tree[0] > 6:
                        self.check(console, model, "undo")
                    else:
                        self.check(console, model, self.line(source, model.tree[0]))

    def test_large_trees(self):
        for tree in LARGE[::3]:
            console = Console(Book(tree))
            self.assertEqual(console.execute("start 15"), "done")
            for line in ("need", "source", "needs", "best", "schedule", "latest 9999999999999", "free 1"):
                self.assertNotIn("error", console.execute(line))
            book = console.book
            self.assertEqual(console.execute("needs"), " ".join(map(str, book.needs())))
            self.assertEqual(console.execute("schedule").split(" ").index("-"), 15)

    def test_two_consoles_and_the_books_own_methods(self):
        book = Book(T)
        one, other = Console(book), Console(book)
        self.assertEqual(one.execute("grow 0 9"), "done")
        self.assertEqual(other.execute("need"), "9")
        book.start_at(5)
        self.assertEqual(one.execute("source"), "5")
        book.undo()
        self.assertEqual(other.execute("source"), "0")
        self.assertEqual(other.execute("undo"), "error NothingToUndo")
        book.run([("grow", 0, 1), ("grow", 0, 1)])
        self.assertEqual(one.execute("undo"), "done")
        self.assertEqual(len(book), 1)
        self.assertEqual(one.transcript(), (("grow 0 9", "done"), ("source", "5"), ("undo", "done")))
        self.assertEqual(other.transcript(), (("need", "9"), ("source", "0"), ("undo", "error NothingToUndo")))
        self.assertEqual(book.log(), (("begin", 2), ("end", 2)))

    def test_a_copy_is_another_book(self):
        book = Book(T)
        console = Console(book.copy())
        console.execute("grow 0 9")
        self.assertEqual(book.tree(), T)

    def test_within_a_batch(self):
        for book in (Book(T), SwiftBook(T), SwiftBook(T, 9)):
            console = Console(book)
            seen = []

            def work(same):
                for line in ("delay 0 1 1", "delay 9 9 9", "grow 0 0", "prune 9", "move 1 1 1", "undo", "start 9",
                             "start 0"):
                    self.assertEqual(console.execute(line), "error Busy")
                self.assertEqual(console.execute("undo 1"), "unknown")
                self.assertEqual(console.execute("latest -1"), "error OutOfRange")
                self.assertEqual(console.execute("free 0"), "error InvalidDelay")
                for line in ("need", "source", "needs", "best", "schedule", "latest 99", "free 1"):
                    self.assertNotIn("error", console.execute(line))
                seen.append(console.execute("needs"))

            book.run([("grow", 0, 1), ("prune", 5)], on_step=work)
            self.assertEqual(seen, ["3 3 4 3 4 4", "3 3 3 3 4"])
            self.assertEqual(console.execute("undo"), "done")

    def test_swift_books(self):
        book = SwiftBook(T, 3)
        console = Console(book)
        before = answers_of(book)
        for line in ("grow 1 1", "grow 0 9999", "delay 0 1 9"):
            self.assertEqual(console.execute(line), "error TooSlow")
        self.assertEqual(console.execute("grow 9 9999"), "error NoSuchVertex")
        self.assertEqual(answers_of(book), before)
        self.assertEqual(Console(SwiftBook(T)).execute("grow 1 1"), "done")
        self.assertEqual(Console(SwiftBook(ONE, 0)).execute("grow 0 1"), "error TooSlow")


class TranscriptTest(ConsoleTest):
    def test_the_last_twenty(self):
        console, model = self.pair(T)
        self.assertEqual(console.transcript(), ())
        rows = []
        for k in range(50):
            line = ("needs", "grow 0 1", None, "undo", "x", f"latest {k}", ["undo"], "undo", "undo")[k % 9]
            result = console.execute(line)
            rows.append((line if type(line) is str else None, result))
            self.assertEqual(console.transcript(), tuple(rows[-20:]))
            self.assertEqual(console.transcript(), console.transcript())
        self.assertEqual(len(console.transcript()), 20)

    def test_what_was_returned_stays(self):
        console, model = self.pair(T)
        for k in range(25):
            before = console.transcript()
            again = tuple(before)
            console.execute("need")
            self.assertEqual(before, again)
            self.assertIs(type(before), tuple)
            for row in before:
                self.assertIs(type(row), tuple)
            self.assertEqual(len(console.transcript()), min(k + 1, 20))

    def test_none_for_a_line_that_was_no_text(self):
        for value in (None, 0, True, b"need", ["need"], ("need",), {}):
            console, model = self.pair(T)
            self.assertEqual(console.execute(value), "unknown")
            self.assertEqual(console.transcript(), ((None, "unknown"),))

    def test_it_shows_the_line_as_it_was(self):
        console, model = self.pair(T)
        for line in (" need ", "need\n", "", "latest 03", "grow 0 99999999999999"):
            console.execute(line)
            self.assertEqual(console.transcript()[-1], (line, "unknown"))


class QuietTest(ConsoleTest):
    def test_a_console_does_not_change_its_book(self):
        book = Book(T)
        before = answers_of(book), book.log()
        console = Console(book)
        for line in ("need", "source", "needs", "best", "schedule", "latest 3", "latest 2", "free 1", "free 0", "x",
                     None):
            console.execute(line)
        self.assertEqual((answers_of(book), book.log()), before)
        self.assertIsNone(outcome_of(book.grow, 0, 1))


if __name__ == "__main__":
    unittest.main()
