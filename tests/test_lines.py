"""Tests of filledrows.lines."""

import copy
import re
import unittest

from filledrows.errors import InvalidLine, InvalidPlan, InvalidText
from filledrows.lines import fits, letters, read_line, rows
from tests.samples import (LONG_LINES, SHORT_LINES, WRONG_LINES, WRONG_PLANS, WRONG_TEXTS,
                           Unhashable, WrongArguments, words)

# What the letters of the lines of a plan look like.
PATTERNS = {
    "behind": "bo*f*",
    "front": "f*bo*",
    "joined": "(bo*)+",
    "packed": "(bo*)+f*",
    "any": "[bof]+",
}

LINES = SHORT_LINES + [line for line, *_ in LONG_LINES]

SHORT_FITS = {
    (1,): {"behind", "front", "joined", "packed", "any"},
    (3,): {"behind", "front", "joined", "packed", "any"},
    (-2,): {"any"},
    (3, -2): {"behind", "packed", "any"},
    (-2, 3): {"front", "any"},
    (3, 1): {"joined", "packed", "any"},
    (3, 1, -1): {"packed", "any"},
    (-1, 3, 1): {"any"},
    (1, -1, 1): {"any"},
    (-1, 1, -1): {"any"},
    (1, -1, 1, -1): {"any"},
}


def calls_with_line(line):
    """The calls of all functions that take a line, with this one."""
    return [
        lambda: letters(line),
        lambda: letters(line=line),
        lambda: rows(line),
        lambda: rows(line=line),
        lambda: fits(line, "any"),
        lambda: fits(line, plan="behind"),
        lambda: fits(plan="joined", line=line),
    ]


class Samples(unittest.TestCase):

    def test_all_short_lines_are_there_once(self):
        self.assertEqual(len(SHORT_LINES), 2 + 5 + 13 + 34 + 89)
        self.assertEqual(len(set(SHORT_LINES)), len(SHORT_LINES))
        self.assertEqual(len([word for length in range(1, 6) for word in words(length)]),
                         len(SHORT_LINES))


class Letters(WrongArguments):

    def test_the_examples_of_the_interface(self):
        self.assertEqual(letters((3, -2, 1)), "booffb")
        self.assert_given(InvalidLine, line := (2, -1, -1), lambda: letters(line))

    def test_all_short_lines(self):
        for line in SHORT_LINES:
            with self.subTest(line):
                wanted = "".join("b" + "o" * (n - 1) if n > 0 else "f" * -n for n in line)
                self.assertEqual(letters(line), wanted)

    def test_no_two_short_lines_have_the_same_letters(self):
        found = sorted(letters(line) for line in SHORT_LINES)
        self.assertEqual(found, sorted(word for length in range(1, 6) for word in words(length)))

    def test_long_lines(self):
        for line, text, _, _ in LONG_LINES:
            with self.subTest(line):
                self.assertEqual(letters(line), text)

    def test_a_string_is_returned(self):
        for line in LINES:
            self.assertIs(type(letters(line)), str)

    def test_by_name(self):
        self.assertEqual(letters(line=(3, -2, 1)), "booffb")


class ReadLine(WrongArguments):

    def test_the_examples_of_the_interface(self):
        self.assertEqual(read_line("bfbo"), (1, -1, 2))

    def test_it_takes_letters_back(self):
        for line in LINES:
            with self.subTest(line):
                self.assertEqual(read_line(letters(line)), line)

    def test_letters_takes_it_back(self):
        for length in range(1, 6):
            for word in words(length):
                with self.subTest(word):
                    self.assertEqual(letters(read_line(word)), word)

    def test_long_texts(self):
        for line, text, _, _ in LONG_LINES:
            with self.subTest(text):
                self.assertEqual(read_line(text), line)

    def test_pieces_by_themselves(self):
        self.assertEqual(read_line("b"), (1,))
        self.assertEqual(read_line("f"), (-1,))
        self.assertEqual(read_line("bb"), (1, 1))
        self.assertEqual(read_line("ff"), (-2,))
        self.assertEqual(read_line("fboob"), (-1, 3, 1))

    def test_a_tuple_of_integers_is_returned(self):
        for length in range(1, 6):
            for word in words(length):
                line = read_line(word)
                self.assertIs(type(line), tuple)
                self.assertEqual({type(piece) for piece in line}, {int})

    def test_by_name(self):
        self.assertEqual(read_line(text="bfbo"), (1, -1, 2))

    def test_wrong_texts(self):
        for text in WRONG_TEXTS:
            with self.subTest(repr(text)):
                self.assert_given(InvalidText, text, lambda: read_line(text))
                self.assert_given(InvalidText, text, lambda: read_line(text=text))

    def test_all_short_strings_that_are_no_line(self):
        right = {word for length in range(1, 6) for word in words(length)}
        for text in all_strings("bofx", 5):
            if text in right:
                self.assertEqual(letters(read_line(text)), text)
            else:
                self.assert_given(InvalidText, text, lambda: read_line(text))


class Rows(unittest.TestCase):

    def test_the_examples_of_the_interface(self):
        self.assertEqual(rows((3, -2, 1)), ((0, 2), (5, 5)))

    def test_all_short_lines(self):
        for line in SHORT_LINES:
            with self.subTest(line):
                found = re.finditer("bo*", letters(line))
                wanted = tuple((row.start(), row.end() - 1) for row in found)
                self.assertEqual(rows(line), wanted)

    def test_long_lines(self):
        for line, _, wanted, _ in LONG_LINES:
            with self.subTest(line):
                self.assertEqual(rows(line), wanted)

    def test_lines_without_rows(self):
        for places in range(1, 61):
            self.assertEqual(rows((-places,)), ())

    def test_rows_side_by_side_are_rows_of_their_own(self):
        self.assertEqual(rows((1, 2, 3)), ((0, 0), (1, 2), (3, 5)))

    def test_a_tuple_of_pairs_of_integers_is_returned(self):
        for line in LINES:
            found = rows(line)
            self.assertIs(type(found), tuple)
            for pair in found:
                self.assertIs(type(pair), tuple)
                self.assertEqual([type(place) for place in pair], [int, int])

    def test_by_name(self):
        self.assertEqual(rows(line=(3, -2, 1)), ((0, 2), (5, 5)))


class Fits(WrongArguments):

    def test_the_examples_of_the_interface(self):
        self.assertIs(fits((3, -2), "behind"), True)
        self.assertIs(fits((3, 1), "behind"), False)
        self.assertIs(fits((3, 1), "packed"), True)

    def test_all_short_lines_with_all_plans(self):
        for line in SHORT_LINES:
            for plan, pattern in PATTERNS.items():
                with self.subTest(line=line, plan=plan):
                    wanted = re.fullmatch(pattern, letters(line)) is not None
                    self.assertIs(fits(line, plan), wanted)

    def test_lines_of_each_form(self):
        for line, plans in SHORT_FITS.items():
            for plan in PATTERNS:
                with self.subTest(line=line, plan=plan):
                    self.assertIs(fits(line, plan), plan in plans)

    def test_long_lines_with_all_plans(self):
        for line, _, _, plans in LONG_LINES:
            for plan in PATTERNS:
                with self.subTest(line=line, plan=plan):
                    self.assertIs(fits(line, plan), plan in plans)

    def test_by_name(self):
        self.assertIs(fits(line=(3, -2), plan="behind"), True)
        self.assertIs(fits(plan="front", line=(3, -2)), False)
        self.assertIs(fits((3, -2), plan="packed"), True)

    def test_wrong_plans(self):
        for plan in WRONG_PLANS:
            for line in ((3, -2, 1), (-1,), (1,) * 60):
                with self.subTest(repr(plan)):
                    self.assert_given(InvalidPlan, plan, lambda: fits(line, plan))
                    self.assert_given(InvalidPlan, plan, lambda: fits(plan=plan, line=line))

    def test_the_line_is_looked_at_before_the_plan(self):
        for line in WRONG_LINES:
            for plan in ("", "Any", None, 0, True, [], Unhashable(), ("any",), line):
                with self.subTest(line=repr(line), plan=repr(plan)):
                    self.assert_given(InvalidLine, line, lambda: fits(line, plan))
                    self.assert_given(InvalidLine, line, lambda: fits(plan=plan, line=line))


class WrongLines(WrongArguments):

    def test_each_function_that_takes_a_line(self):
        for line in WRONG_LINES:
            for call in calls_with_line(line):
                with self.subTest(repr(line)):
                    self.assert_given(InvalidLine, line, call)

    def test_one_place_too_many_and_not_one_too_many(self):
        for line, *_ in LONG_LINES:
            if sum(abs(piece) for piece in line) == 60:
                for longer in ((1, *line), (*line, 1), (line[0] + (1 if line[0] > 0 else -1), *line[1:])):
                    for call in calls_with_line(longer):
                        with self.subTest(longer):
                            self.assert_given(InvalidLine, longer, call)


class Calls(WrongArguments):

    def test_equal_arguments_give_equal_results(self):
        for line in LINES:
            again = tuple(list(line))
            self.assertEqual(letters(line), letters(again))
            self.assertEqual(rows(line), rows(again))
            for plan in PATTERNS:
                self.assertEqual(fits(line, plan), fits(again, "".join(list(plan))))

    def test_what_is_passed_is_not_changed(self):
        for wrong in ([1, -1, 2], ["b"], {"any": [1]}, ([1], 2), (1, [2, {}])):
            before = copy.deepcopy(wrong)
            for call in calls_with_line(wrong):
                self.assert_given(InvalidLine, wrong, call)
            self.assert_given(InvalidText, wrong, lambda: read_line(wrong))
            self.assert_given(InvalidPlan, wrong, lambda: fits((1,), wrong))
            self.assertEqual(wrong, before)

    def test_a_call_after_an_error_is_as_before(self):
        self.assert_given(InvalidLine, line := (0,), lambda: rows(line))
        self.assertEqual(rows((3, -2, 1)), ((0, 2), (5, 5)))

    def test_the_functions_are_defined_in_their_file(self):
        for function in (letters, read_line, rows, fits):
            self.assertEqual(function.__module__, "filledrows.lines")


def all_strings(signs, longest):
    """All strings of these signs, up to this length, "" among them."""
    found = [""]
    for text in found:
        if len(text) < longest:
            found.extend(text + sign for sign in signs)
    return found


if __name__ == "__main__":
    unittest.main()
