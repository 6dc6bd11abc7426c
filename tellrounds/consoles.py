"""Consoles: commands and queries about a book, as texts."""

from tellrounds.actions import check_delay
from tellrounds.errors import (
    Busy, InBranch, InvalidDelay, LastVertex, NoSuchEdge, NoSuchVertex, NothingToUndo, NotLeaf, OutOfRange, TooMany,
    TooManyActions, TooSlow,
)
from tellrounds.growth import free_vertices
from tellrounds.schedules import latest_arrivals
from tellrounds.texts import format_schedule, is_number_text

COMMANDS = {"delay": 3, "grow": 2, "prune": 1, "move": 3, "undo": 0, "start": 1}
QUERIES = {"need": 0, "source": 0, "needs": 0, "best": 0, "schedule": 0, "latest": 1, "free": 1}
DIGITS = 13
PAIRS = 20


def read_integer(word):
    """Return the integer whose text the word is, None if there is none with so few digits."""
    digits = word.removeprefix("-")
    if not is_number_text(digits) or len(digits) > DIGITS or word == "-0":
        return None
    return int(word)


def read_command(text):
    """Return the list of the name of a command or query and its numbers, None if the text is neither."""
    name, *words = text.split(" ")
    if COMMANDS.get(name, QUERIES.get(name)) != len(words):
        return None
    numbers = [read_integer(word) for word in words]
    if None in numbers:
        return None
    return [name, *numbers]


def join_numbers(numbers):
    """Return the numbers separated by single spaces, - if there are none."""
    if not numbers:
        return "-"
    return " ".join([str(number) for number in numbers])


def latest_text(book, time):
    """Return the answer to the query latest."""
    if time < 0:
        raise OutOfRange()
    return join_numbers(latest_arrivals(book.tree(), book.source, time))


def free_text(book, delay):
    """Return the answer to the query free."""
    check_delay(delay)
    return join_numbers(free_vertices(book.tree(), book.source, delay))


class Console:
    """Executes commands on a book, and keeps the last of them with their results."""

    def __init__(self, book):
        self.book = book
        self.pairs = ()

    def execute(self, line):
        """Return the result of the line, which may be any value."""
        text = line if isinstance(line, str) else None
        result = self.find_result(text)
        pairs = (*self.pairs, (text, result))
        self.pairs = pairs[-PAIRS:]
        return result

    def transcript(self):
        """Return the last pairs (line, result)."""
        return self.pairs

    def find_result(self, text):
        """Return the result of a text, or of None in the place of another value."""
        command = None if text is None else read_command(text)
        if command is None:
            return "unknown"
        try:
            return self.perform(command)
        except Busy:
            return "error Busy"
        except TooManyActions:
            return "error TooManyActions"
        except NothingToUndo:
            return "error NothingToUndo"
        except NoSuchVertex:
            return "error NoSuchVertex"
        except NoSuchEdge:
            return "error NoSuchEdge"
        except InvalidDelay:
            return "error InvalidDelay"
        except TooMany:
            return "error TooMany"
        except LastVertex:
            return "error LastVertex"
        except NotLeaf:
            return "error NotLeaf"
        except InBranch:
            return "error InBranch"
        except TooSlow:
            return "error TooSlow"
        except OutOfRange:
            return "error OutOfRange"

    def perform(self, command):
        """Return the result of a command or a query with its numbers."""
        name, *numbers = command
        if name in COMMANDS:
            self.change(name, numbers)
            return "done"
        return self.answer(name, numbers)

    def change(self, name, numbers):
        """Perform a command."""
        if name == "delay":
            self.book.change_delay(*numbers)
        elif name == "grow":
            self.book.grow(*numbers)
        elif name == "prune":
            self.book.prune(*numbers)
        elif name == "move":
            self.book.move(*numbers)
        elif name == "undo":
            self.book.undo()
        else:
            self.book.start_at(*numbers)

    def answer(self, name, numbers):
        """Return the answer to a query."""
        if name == "need":
            return str(self.book.need)
        if name == "source":
            return str(self.book.source)
        if name == "needs":
            return join_numbers(self.book.needs())
        if name == "best":
            return join_numbers(self.book.best)
        if name == "schedule":
            return format_schedule(self.book.schedule())
        if name == "latest":
            return latest_text(self.book, *numbers)
        return free_text(self.book, *numbers)
