import unittest

from tellrounds.errors import ParseError, TellError
from tellrounds.schedules import best_schedule
from tellrounds.texts import format_schedule, format_tree, parse_schedule, parse_tree
from tellrounds.trees import find_fault
from tests.samples import D, GREATEST, LARGE, MIXED_LARGE, MOST, T, TREES, TRIED, path_tree, star_tree
from tests.values import JUNK

ALL = TREES + MIXED_LARGE
HUNDRED = int("9" * 100)
LONG = 10 ** 5000 + 123
NO_TEXTS = [value for value in JUNK if type(value) is not str] + [b"0 -", b"vertices 1\n", ["-"], ("-",)]
ODD_NUMBERS = ("", "-1", "+1", "-0", "00", "01", "007", "1.0", "1e3", "1_0", "0x1", " ", "x", "None", "--", "1-", "\t1",
               "1\n", "\n", "1\r", "\u0661", "\u00b2", "0 ", "\u00a01")


def place_of(parse, value):
    """Return the field of the error that parsing raises."""
    try:
        found = parse(value)
    except ParseError as error:
        return error.place
    raise AssertionError(f"{value!r} was read as {found!r}")


def is_number(word):
    return word != "" and all(sign in "0123456789" for sign in word) and (word == "0" or word[0] != "0")


def right_place(text):
    """Return what parse_schedule raises for a text, -1 if nothing."""
    words = text.split(" ")
    seen = 0
    for at, word in enumerate(words):
        if word == "-":
            seen += 1
        if word == "-" and seen > 1 or word != "-" and not is_number(word):
            return at
    return -1 if seen else len(words)


def right_line(text):
    """Return what parse_tree raises for a text, -1 if nothing: line by line, the whole beginning each time."""
    lines = text.split("\n")
    ended = lines.pop() == ""
    if not ended:
        lines.append(text.split("\n")[-1])
    if not lines:
        return 0
    words = lines[0].split(" ")
    if len(words) != 2 or words[0] != "vertices" or words[1] not in [str(k) for k in range(1, MOST + 1)]:
        return 0
    count = int(words[1])
    edges = []
    joined = {k: {k} for k in range(count)}
    for at, line in enumerate(lines[1:], 1):
        words = line.split(" ")
        if at >= count or len(words) != 4 or words[0] != "edge" or not all(map(is_number, words[1:])):
            return at
        one, other, delay = [int(word[-30:]) + (len(word) > 30) * 10 ** 30 for word in words[1:]]
        if not (one < other < count and 1 <= delay <= GREATEST) or edges and (one, other) <= edges[-1]:
            return at
        if other in joined[one]:
            return at
        for k in joined[one] | joined[other]:
            joined[k] = joined[one] | joined[other] | joined[k]
        for k in range(count):
            for far in list(joined[k]):
                joined[k] |= joined[far]
        edges.append((one, other))
    return -1 if ended and len(edges) == count - 1 else len(lines)


class FormatScheduleTest(unittest.TestCase):
    def test_written_out(self):
        self.assertEqual(format_schedule((None,)), "-")
        self.assertEqual(format_schedule((0,)), "0")
        self.assertEqual(format_schedule((None, None, None)), "- - -")
        self.assertEqual(format_schedule((10, 9, None, 0)), "10 9 - 0")
        self.assertEqual(format_schedule((HUNDRED, None)), "9" * 100 + " -")
        self.assertEqual(format_schedule((HUNDRED + 1, None)), "1" + "0" * 100 + " -")

    def test_any_number_of_entries(self):
        for many in (1, 2, 40, 1000):
            self.assertEqual(format_schedule((None,) + (7,) * many), "-" + " 7" * many)
            self.assertEqual(format_schedule((7,) * many), " ".join("7" * many))

    def test_around_the_length_of_a_piece(self):
        for digits in [*range(55, 66), *range(118, 123), 180, 4299, 4300, 4301, 5000]:
            for number, text in ((10 ** digits, "1" + "0" * digits), (10 ** digits - 1, "9" * digits),
                                 (10 ** digits + 7, "1" + "0" * (digits - 1) + "7")):
                self.assertEqual(format_schedule((number,)), text)

    def test_schedules(self):
        for tree in ALL:
            for source in range(tree[0]):
                entries = best_schedule(tree, source)
                expected = " ".join("-" if entry is None else str(entry) for entry in entries)
                self.assertEqual(format_schedule(entries), expected)


class ParseScheduleTest(unittest.TestCase):
    def check_back(self, entries):
        found = parse_schedule(format_schedule(entries))
        self.assertEqual(found, entries)
        self.assertIs(type(found), tuple)
        self.assertEqual([type(entry) for entry in found], [type(entry) for entry in entries])

    def test_what_is_formatted_is_parsed_back(self):
        for tree in ALL:
            for source in range(tree[0]):
                self.check_back(best_schedule(tree, source))
        for many in (0, 1, 5, 39, 400):
            for place in {0, many // 2, many}:
                for number in (0, 1, 9, 10, 12345, HUNDRED, HUNDRED + 1):
                    self.check_back((number,) * place + (None,) + (number,) * (many - place))

    def test_long_integers(self):
        for digits in [*range(1, 130), 4299, 4300, 4301, 5000]:
            for number in (10 ** digits, 10 ** digits - 1, 10 ** digits // 7):
                self.check_back((number, None))
        self.check_back((LONG, None, LONG + 1))

    def test_no_dash(self):
        for many in (1, 2, 16, 40):
            self.assertEqual(place_of(parse_schedule, " ".join("5" * many)), many)

    def test_wrong_words(self):
        right = "3 1 - 0 2 10".split(" ")
        for at in range(len(right)):
            for odd in ODD_NUMBERS:
                words = right[:at] + [odd] + right[at + 1:]
                expected = right_place(" ".join(words))
                self.assertEqual(place_of(parse_schedule, " ".join(words)), expected, words)
                if odd != "0 " and at != 2:
                    self.assertEqual(expected, at)
            more = right[:at] + ["-"] + right[at + 1:]
            if at != 2:
                self.assertEqual(place_of(parse_schedule, " ".join(more)), max(at, 2))
            self.assertEqual(place_of(parse_schedule, " ".join(right[:at] + [""] + right[at:])), at)
            fewer = " ".join(right[:at] + right[at + 1:])
            self.assertEqual(place_of(parse_schedule, fewer) if at == 2 else right_place(fewer), 5 if at == 2 else -1)

    def test_every_short_text(self):
        signs = "-01 x\n"
        texts = [""]
        for _ in range(5):
            texts += [text + sign for text in texts if len(text) == len(texts[-1]) for sign in signs]
        for text in texts:
            expected = right_place(text)
            if expected == -1:
                self.check_text(text)
            else:
                self.assertEqual(place_of(parse_schedule, text), expected, repr(text))

    def check_text(self, text):
        found = parse_schedule(text)
        self.assertEqual(found, tuple(None if word == "-" else int(word) for word in text.split(" ")))
        self.assertEqual(format_schedule(found), text)

    def test_written_out(self):
        self.assertEqual(parse_schedule("-"), (None,))
        self.assertEqual(parse_schedule("0 - 10"), (0, None, 10))
        for text, place in (("", 0), (" ", 0), ("0", 1), ("0 1", 2), ("- -", 1), ("1 - -", 2), ("- 1 ", 2), (" -", 0),
                            ("-  1", 1), ("- 01", 1), ("- 1\n", 1), ("-\n", 0), ("x -", 0), ("- +1", 1), ("- -1", 1),
                            ("-1 -", 0), ("1 2 x", 2), ("- - x", 1), ("\n", 0), ("None", 0)):
            self.assertEqual(place_of(parse_schedule, text), place, repr(text))

    def test_values_that_are_no_texts(self):
        for value in NO_TEXTS:
            self.assertIsNone(place_of(parse_schedule, value))

    def test_the_error(self):
        with self.assertRaises(TellError):
            parse_schedule("")
        self.assertIs(type(place_of(parse_schedule, "x")), int)


class FormatTreeTest(unittest.TestCase):
    def test_all(self):
        for tree in ALL:
            lines = [f"vertices {tree[0]}"] + ["edge " + " ".join(map(str, edge)) for edge in tree[1]]
            self.assertEqual(format_tree(tree), "".join(line + "\n" for line in lines))

    def test_written_out(self):
        self.assertEqual(format_tree((1, ())), "vertices 1\n")
        self.assertEqual(format_tree(D), "vertices 3\nedge 0 1 5\nedge 0 2 1\n")
        self.assertEqual(format_tree((2, ((0, 1, GREATEST),))), "vertices 2\nedge 0 1 1000000000\n")


class ParseTreeTest(unittest.TestCase):
    def check(self, text):
        expected = right_line(text)
        if expected == -1:
            tree = parse_tree(text)
            self.assertIsNone(find_fault(tree))
            self.assertEqual(format_tree(tree), text)
        else:
            place = place_of(parse_tree, text)
            self.assertEqual(place, expected, repr(text))
            self.assertIs(type(place), int)

    def test_what_is_formatted_is_parsed_back(self):
        for tree in ALL:
            found = parse_tree(format_tree(tree))
            self.assertEqual(found, tree)
            self.assertIsNone(find_fault(found))
            self.assertIs(type(found[0]), int)

    def test_counts(self):
        for word in [*map(str, range(20)), "0", "17", "99999999999999999999", "9" * 4500, *ODD_NUMBERS]:
            self.check(f"vertices {word}\n")
            self.check(f"vertices {word}")
            self.check(f"vertices {word}\nedge 0 1 1\n")
        self.assertEqual(place_of(parse_tree, "vertices 0\n"), 0)
        self.assertEqual(place_of(parse_tree, "vertices 17\n"), 0)
        self.assertEqual(place_of(parse_tree, "vertices 16\n"), 1)
        self.assertEqual(parse_tree("vertices 1\n"), (1, ()))

    def test_first_lines(self):
        for line in ("vertices", "vertices ", "vertices  2", " vertices 2", "vertices 2 ", "vertices 2 3", "Vertices 2",
                     "vertex 2", "2", "", "edge 0 1 5", "vertices\t2", "vertices 2\r", "vertices two", "x" * 400):
            self.assertEqual(place_of(parse_tree, line + "\nedge 0 1 5\n"), 0)
            self.assertEqual(place_of(parse_tree, line), 0)

    def test_edge_lines(self):
        for line in ("edge", "edge ", "edge 0 1", "edge 0 1 5 ", "edge 0 1 5 5", "edge  0 1 5", " edge 0 1 5",
                     "Edge 0 1 5", "0 1 5", "", "edge 0 1  5", "edge 0 1 five", "vertices 2", "edge 0\t1 5",
                     "edge 0 1 5\r", "edge 00 1 5", "edge 0 01 5", "edge 0 1 05", "edge +0 1 5", "edge 0 1 -5",
                     "edge -0 1 5", "edge 0 1 5.0", "edge 0,1,5", "edges 0 1 5", "edge 0 1 " + "9" * 4500):
            for rest in ("", "\n", "\nedge 0 2 1\n", "\n\n", "\nx"):
                self.assertEqual(place_of(parse_tree, "vertices 3\n" + line + rest), 1)
                self.check("vertices 3\nedge 0 1 5\n" + line + rest)

    def test_each_fault_of_an_edge(self):
        head = "vertices 4\nedge 0 2 5\n"
        for line in ("edge 4 5 1", "edge 0 4 1", "edge 3 3 1", "edge 2 1 1", "edge 3 4 1", "edge 0 3 0",
                     "edge 0 3 1000000001", "edge 0 2 5", "edge 0 2 6", "edge 0 1 5"):
            self.assertEqual(place_of(parse_tree, head + line + "\nedge 2 3 1\n"), 2, line)
            self.assertEqual(place_of(parse_tree, head + line), 2, line)
            # A line that is no edge line at all comes later and is not reported.
            self.assertEqual(place_of(parse_tree, head + line + "\nx\n"), 2, line)
            self.assertEqual(place_of(parse_tree, head + line + "\nedge 2 3 1\nedge 2 3 1\n"), 2, line)
            # One that comes earlier is.
            self.assertEqual(place_of(parse_tree, "vertices 4\nx\n" + line + "\nedge 2 3 1\n"), 1, line)
        self.assertEqual(place_of(parse_tree, "vertices 4\nedge 0 1 1\nedge 0 2 1\nedge 1 2 1\n"), 3)
        self.assertEqual(place_of(parse_tree, "vertices 5\nedge 0 1 1\nedge 0 2 1\nedge 1 2 1\nedge 3 4 1\n"), 3)
        self.assertEqual(parse_tree(head + "edge 0 3 1\nedge 1 2 1000000000\n"),
                         (4, ((0, 2, 5), (0, 3, 1), (1, 2, GREATEST))))

    def test_lines_and_line_breaks(self):
        for text, line in (
            ("", 0), ("\n", 0), ("\n\n", 0), ("x", 0), ("vertices 1", 1), ("vertices 1\n\n", 1), ("vertices 1\n ", 1),
            ("vertices 1\nedge 0 1 1\n", 1), ("vertices 2", 1), ("vertices 2\n", 1), ("vertices 2\n\n", 1),
            ("vertices 2\nedge 0 1 5", 2), ("vertices 2\nedge 0 1 5\n\n", 2), ("vertices 2\nedge 0 1 5\n ", 2),
            ("vertices 2\nedge 0 1 5\nedge 0 1 5\n", 2), ("vertices 2\nedge 0 1 5\nx", 2),
            ("vertices 2\n\nedge 0 1 5\n", 1), ("\nvertices 2\nedge 0 1 5\n", 0), ("vertices 2\r\nedge 0 1 5\r\n", 0),
            ("vertices 2\redge 0 1 5\r", 0), ("vertices 2\nedge 0 1 5\r\n", 1), ("vertices 2 edge 0 1 5", 0),
            ("vertices 2\x0bedge 0 1 5\n", 0), ("vertices 2\x1eedge 0 1 5\n", 0), ("vertices 2\nedge 0 1 5\x0c", 1),
            ("vertices 3\nedge 0 1 5\n", 2), ("vertices 3\nedge 0 1 5", 2), ("vertices 3\nedge 0 1 5\n\n", 2),
        ):
            self.assertEqual(place_of(parse_tree, text), line, repr(text))

    def test_lines_changed(self):
        for tree in [(1, ()), (2, ((0, 1, 3),)), D, T, star_tree(MOST, 7), path_tree(range(MOST)), *LARGE[-2:]]:
            lines = format_tree(tree).splitlines(True)
            for at in range(len(lines)):
                self.check("".join(lines[:at] + lines[at + 1:]))
                self.check("".join(lines[:at + 1] + lines[at:]))
                self.check("".join(lines[:at] + lines[at + 1:])[:-1])
                self.check("".join(lines[:at]) + lines[at][:-1] + " \n" + "".join(lines[at + 1:]))
                self.check("".join(lines[:at]) + "\n" + "".join(lines[at:]))
                self.check("".join(lines[:at]) + lines[at][:-1] + "\r\n" + "".join(lines[at + 1:]))
                self.check("".join(lines[:at]) + lines[at][:-1] + "".join(lines[at + 1:]))
                for other in range(at):
                    swapped = list(lines)
                    swapped[at], swapped[other] = lines[other], lines[at]
                    self.check("".join(swapped))
            self.check("".join(lines)[:-1])
            self.check("".join(lines) + lines[-1])

    def test_words_changed(self):
        for tree in TRIED[:40:3] + [T, D, star_tree(MOST, 7)]:
            lines = [line.split(" ") for line in format_tree(tree).splitlines()]
            for at, words in enumerate(lines):
                for place in range(len(words)):
                    for odd in (*ODD_NUMBERS, "0", "1", "2", "3", "15", "16", "17", "1000000000", "1000000001", "edge"):
                        changed = words[:place] + [odd] + words[place + 1:]
                        rows = lines[:at] + [changed] + lines[at + 1:]
                        self.check("".join(" ".join(row) + "\n" for row in rows))
                    for changed in (words[:place] + words[place + 1:], words[:place + 1] + words[place:],
                                    words[place:] + words[:place]):
                        rows = lines[:at] + [changed] + lines[at + 1:]
                        self.check("".join(" ".join(row) + "\n" for row in rows))

    def test_signs_changed(self):
        text = format_tree(D)
        for at in range(len(text) + 1):
            self.check(text[:at] + text[at + 1:])
            self.check(text[:at])
            self.check(text[at:])
            for sign in "0159 -+\nex":
                self.check(text[:at] + sign + text[at:])
                self.check(text[:at] + sign + text[at + 1:])

    def test_texts_of_four_thousand_characters(self):
        long = "vertices 2\nedge 0 1 5\n" + "edge 0 1 5\n" * 360
        self.assertEqual(place_of(parse_tree, long), 2)
        self.assertEqual(place_of(parse_tree, "\n" * 4000), 0)
        self.assertEqual(place_of(parse_tree, "vertices 2\n" + "x" * 3989), 1)
        self.assertEqual(place_of(parse_tree, "vertices 2\nedge 0 1 " + "1" * 3970), 1)

    def test_values_that_are_no_texts(self):
        for value in NO_TEXTS + [T, D]:
            self.assertIsNone(place_of(parse_tree, value))

    def test_other_texts(self):
        for value in JUNK:
            if type(value) is str:
                self.assertEqual(place_of(parse_tree, value), 0)


if __name__ == "__main__":
    unittest.main()
