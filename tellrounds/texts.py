"""Texts: schedules and trees, written and read."""

from tellrounds.bounds import VERTICES
from tellrounds.errors import ParseError
from tellrounds.trees import find_edges_fault

# Python turns only integers of a few thousand digits into text and back, so that longer ones go in pieces.
PIECE_DIGITS = 60
PIECE = 10 ** 60


def write_number(number):
    """Return the decimal text of an integer from 0 on."""
    pieces = []
    while number >= PIECE:
        number, low = divmod(number, PIECE)
        pieces.append(str(low).zfill(PIECE_DIGITS))
    pieces.append(str(number))
    return "".join(pieces[::-1])


def read_number(word):
    """Return the integer with this decimal text."""
    first = len(word) % PIECE_DIGITS
    number = int("0" + word[:first])
    for at in range(first, len(word), PIECE_DIGITS):
        number = number * PIECE + int(word[at:at + PIECE_DIGITS])
    return number


def is_number_text(word):
    """Return whether the word is the text of an integer from 0 on, without leading zeros."""
    return word.isascii() and word.isdigit() and (word == "0" or not word.startswith("0"))


def format_schedule(schedule):
    """Return the entries separated by single spaces, - for None."""
    return " ".join(["-" if entry is None else write_number(entry) for entry in schedule])


def format_tree(tree):
    """Return the lines of the tree, each with a line break at its end."""
    count, edges = tree
    lines = [f"vertices {count}\n"]
    for one, other, delay in edges:
        lines.append(f"edge {one} {other} {delay}\n")
    return "".join(lines)


def parse_schedule(value):
    """Return the tuple of entries whose text the value is."""
    if not isinstance(value, str):
        raise ParseError(None)
    words = value.split(" ")
    place = find_wrong_word(words)
    if place is not None:
        raise ParseError(place)
    return tuple([None if word == "-" else read_number(word) for word in words])


def find_wrong_word(words):
    """Return the index of the first wrong word, the number of words if - is missing, otherwise None."""
    found = False
    for at, word in enumerate(words):
        if word == "-" and not found:
            found = True
        elif not is_number_text(word):
            return at
    return None if found else len(words)


def parse_tree(value):
    """Return the tree whose text the value is."""
    if not isinstance(value, str):
        raise ParseError(None)
    # The part behind the last line break is empty unless this break is missing.
    *lines, rest = value.split("\n")
    if rest != "":
        lines.append(rest)
    count = read_count(lines)
    if count is None:
        raise ParseError(0)
    # A line that is no edge line gives None, which has the first fault of an edge.
    edges = [read_numbers(line, "edge", 3) for line in lines[1:count]]
    fault = find_edges_fault(count, edges)
    if fault is not None:
        path, reason = fault
        raise ParseError(path[1] + 1)
    if len(lines) != count or rest != "":
        raise ParseError(min(len(lines), count))
    return count, tuple(edges)


def read_count(lines):
    """Return the number of vertices in the first line, None if there is no valid one."""
    if not lines:
        return None
    numbers = read_numbers(lines[0], "vertices", 1)
    if numbers is None or not 1 <= numbers[0] <= VERTICES:
        return None
    return numbers[0]


def read_numbers(line, head, size):
    """Return the tuple of this many integers behind the head of the line, None if the line has another form."""
    first, *words = line.split(" ")
    if first != head or len(words) != size or not all([is_number_text(word) for word in words]):
        return None
    return tuple([read_number(word) for word in words])
