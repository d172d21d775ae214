"""Tests of filledrows.books."""

import copy
import itertools
import random
import unittest
import unittest.mock

from filledrows import books as module
from filledrows.alike import alike, lonely
from filledrows.asking import can_hold
from filledrows.books import Book
from filledrows.errors import (Broken, InUse, InvalidIndex, InvalidName, InvalidWish, NotAProgram,
                               NothingToUndo, TooMany, UnknownName)
from filledrows.programs import Program
from filledrows.reach import reach
from tests.samples import (KINDS, NESTED, ODD_VALUES, PLANS, WRONG_KINDS, WRONG_NUMBERS, WRONG_PLANS,
                           WRONG_PROGRAMS, EqualToAll, Unhashable, WrongArguments, changed_layers,
                           drawn_programs)

WIDE = Program(("look line back 1 own", "look line ahead 1 own"))
CLEAN = Program(("look line back 1 own", "clear", "look line ahead 1 own"))
EMPTY = Program(("look row back 1 every 2",))
BROAD = Program(("look row back 3", "look row ahead 3"))

NAMES = ("a", "z", "wide", "clean", "a0", "z9", "abcdefgh", "a1234567", "row2row", "x")

NO_NAMES = ODD_VALUES + [
    "", "A", "Wide", "wIde", "1", "1a", "0", "_", "_a", "a_b", "a b", "a-b", " a", "a ", "a\n", "\n",
    "abcdefghi", "a12345678", "a.b", "~", "a" * 2000, ("a",), ("wide", "clean"), ["a"], (), NESTED,
    10 ** 39, b"a", b"wide",
]

# Wishes of each form, with names under which something stands in the book of `filled`.
WISHES = [
    ("never", "clean", "filling", "behind", None),
    ("never", "clean", "filling", "behind", 1),
    ("never", "wide", "filling", "joined", 2),
    ("never", "empty", "later", "any", 6),
    ("alone", "clean", "behind"),
    ("alone", "empty", "any"),
    ("alike", "clean", "wide", "joined"),
    ("alike", "wide", "clean", "front"),
    ("alike", "wide", "wide", "any"),
    ("reach", "wide", "behind", 1, 1),
    ("reach", "wide", "any", None, None),
    ("reach", "wide", "any", None, 1),
    ("reach", "clean", "any", 5, 10 ** 39),
    ("reach", "empty", "any", 0, 0),
]

BROKEN_WISHES = [
    ("never", "wide", "filling", "behind", 1),
    ("never", "wide", "filling", "behind", None),
    ("never", "wide", "later", "any", 3),
    ("never", "broad", "filling", "joined", None),
    ("never", "broad", "filling", "joined", 2),
    ("never", "clean", "later", "any", 5),
    ("alone", "wide", "behind"),
    ("alone", "clean", "joined"),
    ("alike", "clean", "wide", "behind"),
    ("alike", "wide", "empty", "any"),
    ("reach", "wide", "behind", 0, 1),
    ("reach", "wide", "behind", 1, 0),
    ("reach", "wide", "behind", 0, None),
    ("reach", "wide", "behind", None, 0),
    ("reach", "first", "any", 10 ** 39, None),
    ("reach", "first", "any", 59, 0),
]

NO_WISHES = ODD_VALUES + [
    (), ("never",), ("never", "clean"), ("never", "clean", "filling"), ("never", "clean", "filling", "any"),
    ("never", "clean", "filling", "any", 1, 1), ("Never", "clean", "filling", "any", 1),
    ("never", "clean", "any", "filling", 1), ("never", "clean", 1, "any", "filling"),
    ("never", ("clean",), "filling", "any", 1), ["never", "clean", "filling", "any", 1],
    ("alone",), ("alone", "clean"), ("alone", "clean", "any", None), ("alone", "clean", "any", 1),
    ("alone", "any", "clean"), ("lonely", "clean", "any"), ("alone", "clean", "any", "any"),
    ("alike",), ("alike", "clean"), ("alike", "clean", "wide"), ("alike", "clean", "wide", "any", 1),
    ("alike", "clean", "any", "wide"), ("alike", ("clean", "wide"), "any"), ("unlike", "clean", "wide", "any"),
    ("reach", "clean"), ("reach", "clean", "any"), ("reach", "clean", "any", 1),
    ("reach", "clean", "any", 1, 1, 1), ("reach", "clean", "any", (1, 1)), ("reach", 1, 1, "clean", "any"),
    ("reach", "clean", "any", -1, 1), ("reach", "clean", "any", 1, -1), ("reach", "clean", "any", -1, -1),
    ("reach", "clean", "any", True, 1), ("reach", "clean", "any", 1, False), ("reach", "clean", "any", "1", 1),
    ("reach", "clean", "any", 1, (1,)), ("reach", "clean", "any", 1j, 1),
    "never", "never clean filling any 1", {"never": "clean"}, (1, 2, 3), (None,) * 5, ((),), NESTED,
    (EqualToAll(),) * 3, (EqualToAll(),) * 4, (EqualToAll(),) * 5, (Unhashable(),) * 5,
    (unittest.mock.ANY, "clean", "any"), ("alone", EqualToAll(), "any"), ("alone", "clean", EqualToAll()),
    (("never", "clean", "filling", "any", 1),), (True, "clean", "any"), (b"alone", "clean", "any"),
]


def wrong_parts():
    """Wishes in which just one part is not what it has to be."""
    for name in NO_NAMES:
        yield ("never", name, "filling", "any", 1)
        yield ("alone", name, "any")
        yield ("alike", name, "wide", "any")
        yield ("alike", "wide", name, "any")
        yield ("reach", name, "any", 1, 1)
    for kind in WRONG_KINDS:
        yield ("never", "clean", kind, "any", 1)
    for plan in WRONG_PLANS:
        yield ("never", "clean", "filling", plan, 1)
        yield ("alone", "clean", plan)
        yield ("alike", "clean", "wide", plan)
        yield ("reach", "clean", plan, 1, 1)
    for number in WRONG_NUMBERS:
        if number is not None:
            yield ("never", "clean", "filling", "any", number)
    for value in ODD_VALUES:
        if value is not None and not (type(value) is int and value >= 0):
            yield ("reach", "clean", "any", value, 1)
            yield ("reach", "clean", "any", 1, value)
    for word in ODD_VALUES + ["", "NEVER", "nevr", "never ", " alone", "reaches"]:
        yield (word, "clean", "any")
        yield (word, "clean", "filling", "any", 1)


def filled():
    """A book with some programs."""
    book = Book()
    book["wide"] = WIDE
    book["clean"] = CLEAN
    book["empty"] = EMPTY
    book["broad"] = BROAD
    book["first"] = Program(("look row first",))
    return book


def told(book):
    """All that a book tells of its condition."""
    return (book.names, book.wishes, book.changes, len(book), list(book),
            [book[name].layers for name in book.names])


def undone(book):
    """All that a book tells while its changes are taken back, one by one."""
    found = [told(book)]
    while book.changes:
        book.undo()
        found.append(told(book))
    return found


class Failure(Exception):
    """What ends a trial."""


class Programs(WrongArguments):

    def test_the_examples_of_the_interface(self):
        book = Book()
        book["wide"] = WIDE
        book["clean"] = CLEAN
        self.assertIsNone(book.wish(("never", "clean", "filling", "behind", None)))
        self.assertIsNone(book.wish(("alike", "clean", "wide", "joined")))
        self.assertEqual(book.names, ("clean", "wide"))
        self.assertEqual((len(book.wishes), book.changes), (2, 4))
        self.assertEqual(list(book), ["clean", "wide"])
        self.assert_told(Broken, 2, lambda: book.wish(("alone", "wide", "behind")))

    def test_an_empty_book(self):
        book = Book()
        self.assertEqual(told(book), ((), (), 0, 0, [], []))
        self.assertIs(bool(book), True)
        self.assertTrue(book)
        self.assertNotIn("a", book)
        self.assertIs(type(book.names), tuple)
        self.assertIs(type(book.wishes), tuple)

    def test_programs_under_names(self):
        book = Book()
        for many, name in enumerate(NAMES):
            program = WIDE if many % 2 else CLEAN
            book[name] = program
            self.assertIs(book[name], program)
            self.assertEqual(book.names, tuple(sorted(NAMES[:many + 1])))
            self.assertEqual(list(book), sorted(NAMES[:many + 1]))
            self.assertEqual((len(book), book.changes), (many + 1, many + 1))
        self.assertEqual(book["clean"], WIDE)

    def test_names_ascend_as_strings(self):
        book = Book()
        for name in ("b", "a9", "a10", "ab", "a", "aa", "z", "a1"):
            book[name] = WIDE
        self.assertEqual(book.names, ("a", "a1", "a10", "a9", "aa", "ab", "b", "z"))

    def test_another_program_in_the_place_of_one(self):
        book = Book()
        book["a"] = WIDE
        book["a"] = CLEAN
        self.assertEqual((book["a"], len(book), book.changes), (CLEAN, 1, 2))
        book["a"] = CLEAN
        self.assertEqual((book["a"], len(book), book.changes), (CLEAN, 1, 3))
        book.undo()
        book.undo()
        self.assertEqual((book["a"], book.changes), (WIDE, 1))

    def test_the_same_program_under_two_names(self):
        book = Book()
        book["a"] = book["b"] = WIDE
        self.assertEqual((book["a"], book["b"], book.changes), (WIDE, WIDE, 2))
        book.remove("a")
        self.assertEqual((book.names, book["b"]), (("b",), WIDE))

    def test_what_is_in_a_book(self):
        book = filled()
        for name in book.names:
            self.assertIs(name in book, True)
        self.assertIs("".join(["wi", "de"]) in book, True)
        for value in NO_NAMES + ["other", "wid", "widee", WIDE, ("wide",), b"wide"]:
            self.assertIs(value in book, False)

    def test_a_book_is_true_with_programs_and_without(self):
        book = Book()
        book["a"] = WIDE
        self.assertIs(bool(book), True)
        book.remove("a")
        self.assertIs(bool(book), True)
        self.assertEqual(len(book), 0)

    def test_what_is_no_name(self):
        for value in NO_NAMES:
            with self.subTest(repr(value)):
                book = filled()
                before = told(book)
                self.assert_given(InvalidName, value, lambda: book.__setitem__(value, WIDE))
                self.assertEqual(told(book), before)

    def test_what_is_no_program(self):
        for value in WRONG_PROGRAMS:
            with self.subTest(repr(value)):
                book = filled()
                before = undone(filled())
                for name in ("other", "wide"):
                    self.assert_given(NotAProgram, value, lambda: book.__setitem__(name, value))
                self.assertEqual(undone(book), before)

    def test_no_name_comes_before_no_program(self):
        book = Book()
        for name in ("", "A", 1, None):
            self.assert_given(InvalidName, name, lambda: book.__setitem__(name, None))

    def test_nothing_under_a_name(self):
        book = filled()
        for value in NO_NAMES + ["other", "wid", "wide2", slice(1, 2)]:
            with self.subTest(repr(value)):
                self.assert_given(UnknownName, value, lambda: book[value])
                self.assert_given(UnknownName, value, lambda: book.remove(value))
                self.assert_given(UnknownName, value, lambda: book.remove(name=value))

    def test_remove(self):
        book = filled()
        self.assertIsNone(book.remove("wide"))
        self.assertEqual(book.names, ("broad", "clean", "empty", "first"))
        self.assertIsNone(book.remove(name="first"))
        self.assertEqual((book.names, book.changes), (("broad", "clean", "empty"), 7))
        self.assert_given(UnknownName, "wide", lambda: book["wide"])
        self.assert_given(UnknownName, "wide", lambda: book.remove("wide"))
        book["wide"] = WIDE
        self.assertEqual(book["wide"], WIDE)

    def test_a_name_in_use(self):
        book = filled()
        book.wish(("alone", "empty", "any"))
        book.wish(("alike", "clean", "wide", "joined"))
        book.wish(("alike", "wide", "clean", "front"))
        book.wish(("reach", "first", "any", None, 0))
        book.wish(("never", "empty", "other", "any", None))
        before = undone(copy_of(book))
        for name, index in (("empty", 0), ("clean", 1), ("wide", 1), ("first", 3)):
            self.assert_told(InUse, index, lambda: book.remove(name))
        book.remove("broad")
        book.undo()
        self.assertEqual(undone(book), before)

    def test_equality(self):
        book, other = Book(), Book()
        self.assertTrue(book == book)
        self.assertFalse(book != book)
        self.assertFalse(book == other)
        self.assertTrue(book != other)
        for value in ODD_VALUES + [(), "", [], WIDE]:
            self.assertIs(book == value, False)
            self.assertIs(book != value, True)


def copy_of(book):
    """Another book with the same programs and wishes, and as many changes."""
    found = filled()
    for wish in book.wishes:
        found.wish(wish)
    return found


class Wishes(WrongArguments):

    def test_each_form(self):
        book = filled()
        for many, wish in enumerate(WISHES):
            self.assertIsNone(book.wish(wish))
            self.assertEqual(book.wishes, tuple(WISHES[:many + 1]))
            self.assertEqual(book.changes, 5 + many + 1)
        self.assertIsNone(book.wish(wish=WISHES[0]))
        self.assertEqual(book.wishes, tuple(WISHES) + (WISHES[0],))

    def test_wishes_that_do_not_hold(self):
        for wish in BROKEN_WISHES:
            with self.subTest(wish):
                book = filled()
                self.assert_told(Broken, 0, lambda: book.wish(wish))
                book.wish(WISHES[0])
                book.wish(WISHES[5])
                before = undone(copy_of(book))
                self.assert_told(Broken, 2, lambda: book.wish(wish=wish))
                self.assertEqual(undone(book), before)

    def assert_wish(self, programs, wish, holds):
        """Asks whether a wish is made just if it holds."""
        book = Book()
        for name, program in programs.items():
            book[name] = program
        if holds:
            book.wish(wish)
            self.assertEqual(book.wishes, (wish,))
        else:
            self.assert_told(Broken, 0, lambda: book.wish(wish))
            self.assertEqual(book.wishes, ())

    def test_never_against_can_hold(self):
        draw = random.Random(1)
        made = 0
        for layers in drawn_programs(draw, 150):
            program, kind, plan = Program(layers), draw.choice(KINDS), draw.choice(PLANS)
            for rounds in (1, 2, draw.randint(3, 6), None):
                try:
                    holds = not can_hold(program, kind, plan, rounds=rounds)
                except TooMany:
                    holds = False
                made += holds
                self.assert_wish({"a": program}, ("never", "a", kind, plan, rounds), holds)
        self.assertGreater(made, 50)

    def test_alone_against_lonely(self):
        draw = random.Random(2)
        for layers in drawn_programs(draw, 100):
            for plan in PLANS:
                program = Program(layers)
                self.assert_wish({"a": program}, ("alone", "a", plan), lonely(program, plan))

    def test_alike_against_alike(self):
        draw = random.Random(3)
        for layers in drawn_programs(draw, 100):
            one, other = Program(layers), Program(changed_layers(draw, layers))
            for plan in PLANS:
                programs = {"a": one, "b": other}
                self.assert_wish(programs, ("alike", "a", "b", plan), alike(one, other, plan))
                self.assert_wish(programs, ("alike", "b", "a", plan), alike(one, other, plan))

    def test_reach_against_reach(self):
        draw = random.Random(4)
        for layers in drawn_programs(draw, 60):
            plan = draw.choice(PLANS)
            back, ahead = reach(Program(layers), plan)
            for most_back, most_ahead in itertools.product((None, 0, 1, 2, 3, 8, 60), repeat=2):
                holds = (most_back is None or back is not None and back <= most_back)
                holds = holds and (most_ahead is None or ahead is not None and ahead <= most_ahead)
                self.assert_wish({"a": Program(layers)}, ("reach", "a", plan, most_back, most_ahead), holds)

    def test_rounds_above_the_limits_hold_never(self):
        for rounds, holds in ((1, True), (2, False), (6, False), (None, False)):
            wish = ("never", "broad", "filling", "joined", rounds)
            self.assert_wish({"broad": BROAD}, wish, holds)
        narrow = Program(("look row back 3", "clear", "look row ahead 1"))
        for rounds, holds in ((2, True), (3, False), (None, True)):
            self.assert_wish({"a": narrow}, ("never", "a", "filling", "joined", rounds), holds)

    def test_what_is_no_wish(self):
        book = filled()
        before = told(book)
        for value in NO_WISHES + list(wrong_parts()):
            with self.subTest(repr(value)):
                self.assert_given(InvalidWish, value, lambda: book.wish(value))
                self.assert_given(InvalidWish, value, lambda: book.wish(wish=value))
        self.assertEqual(told(book), before)

    def test_names_under_which_nothing_stands(self):
        book = filled()
        for wish, name in ((("never", "other", "later", "any", 1), "other"), (("alone", "x", "any"), "x"),
                           (("alike", "x", "wide", "any"), "x"), (("alike", "wide", "x", "any"), "x"),
                           (("alike", "x", "y", "any"), "x"), (("alike", "y", "x", "any"), "y"),
                           (("reach", "a1", "any", 0, 0), "a1"), (("never", "z", "later", "any", None), "z")):
            self.assert_given(UnknownName, name, lambda: book.wish(wish))
        self.assertEqual((book.wishes, book.changes), ((), 5))

    def test_no_wish_comes_before_a_name_that_is_not_there(self):
        book = Book()
        wish = ("alike", "x", "y", "other")
        self.assert_given(InvalidWish, wish, lambda: book.wish(wish))
        wish = ("alike", "x", "Y", "any")
        self.assert_given(InvalidWish, wish, lambda: book.wish(wish))
        book["wide"] = WIDE
        self.assert_given(UnknownName, "x", lambda: book.wish(("alike", "wide", "x", "behind")))

    def test_the_same_wish_twice(self):
        book = filled()
        book.wish(WISHES[4])
        book.wish(WISHES[4])
        self.assertEqual((book.wishes, book.changes), ((WISHES[4],) * 2, 7))
        book.lift(0)
        self.assertEqual((book.wishes, book.changes), ((WISHES[4],), 8))

    def test_lift(self):
        book = filled()
        for wish in WISHES[:4]:
            book.wish(wish)
        self.assertIsNone(book.lift(1))
        self.assertEqual(book.wishes, (WISHES[0], WISHES[2], WISHES[3]))
        self.assertIsNone(book.lift(index=2))
        self.assertEqual((book.wishes, book.changes), ((WISHES[0], WISHES[2]), 11))
        book.undo()
        self.assertEqual(book.wishes, (WISHES[0], WISHES[2], WISHES[3]))

    def test_what_is_no_index_of_a_wish(self):
        book = filled()
        for value in ODD_VALUES + [5, -5, "0", (0,), [0], 10 ** 39]:
            with self.subTest(repr(value)):
                self.assert_given(InvalidIndex, value, lambda: book.lift(value))
        book.wish(WISHES[0])
        book.wish(WISHES[1])
        before = undone(copy_of(book))
        for value in ODD_VALUES + [2, 3, -1, -2, "0", (0,), [0], NESTED]:
            if type(value) is not int or value not in (0, 1):
                with self.subTest(repr(value)):
                    self.assert_given(InvalidIndex, value, lambda: book.lift(value))
                    self.assert_given(InvalidIndex, value, lambda: book.lift(index=value))
        self.assertEqual(undone(book), before)

    def test_the_first_wish_that_would_not_hold(self):
        book = filled()
        book.wish(("never", "empty", "later", "any", None))
        book.wish(("reach", "clean", "any", 1, 1))
        book.wish(("alike", "clean", "wide", "joined"))
        book.wish(("alone", "clean", "behind"))
        before = undone(copy_of(book))
        for name, program, index in (("clean", EMPTY, 2), ("clean", WIDE, 3), ("wide", EMPTY, 2),
                                     ("clean", BROAD, 1), ("empty", WIDE, 0),
                                     ("clean", Program(("look line back 2",)), 1)):
            self.assert_told(Broken, index, lambda: book.__setitem__(name, program))
        book["clean"] = Program(("add line back 1", "clear", "add line ahead 1"))
        book["broad"] = EMPTY
        self.assertEqual(book.changes, 11)
        book.undo()
        book.undo()
        self.assertEqual(undone(book), before)

    def test_no_program_comes_before_broken(self):
        book = filled()
        book.wish(("alone", "empty", "any"))
        self.assert_given(NotAProgram, None, lambda: book.__setitem__("empty", None))
        self.assert_told(Broken, 0, lambda: book.__setitem__("empty", WIDE))

    def test_a_program_for_which_rounds_are_too_many(self):
        book = filled()
        book["a"] = EMPTY
        book.wish(("never", "a", "later", "any", None))
        book.wish(("never", "a", "filling", "any", 6))
        self.assert_told(Broken, 0, lambda: book.__setitem__("a", BROAD))
        book.lift(0)
        self.assert_told(Broken, 0, lambda: book.__setitem__("a", BROAD))
        book["a"] = Program(("look row ahead 1",))
        self.assertEqual(book.changes, 10)


class Undo(WrongArguments):

    def test_nothing_to_undo(self):
        book = Book()
        with self.assertRaises(NothingToUndo):
            book.undo()
        book["a"] = WIDE
        self.assertIsNone(book.undo())
        with self.assertRaises(NothingToUndo) as caught:
            book.undo()
        self.assertEqual(vars(caught.exception), {})
        self.assertEqual(told(book), told(Book()))

    def test_down_to_nothing(self):
        book = Book()
        seen = [told(book)]
        for deed in (lambda: book.__setitem__("a", WIDE), lambda: book.__setitem__("b", CLEAN),
                     lambda: book.wish(("alike", "a", "b", "joined")), lambda: book.__setitem__("a", CLEAN),
                     lambda: book.wish(("alone", "a", "behind")), lambda: book.lift(0),
                     lambda: book.remove("b"), lambda: book.__setitem__("a", EMPTY),
                     lambda: book.lift(0), lambda: book.remove("a")):
            deed()
            seen.append(told(book))
        self.assertEqual(book.changes, 10)
        self.assertEqual(undone(book), seen[::-1])
        with self.assertRaises(NothingToUndo):
            book.undo()

    def test_behind_deeds_that_are_refused(self):
        book = filled()
        book.wish(("alone", "empty", "any"))
        before = told(book)
        book["a"] = WIDE
        for error, deed in ((Broken, lambda: book.__setitem__("empty", WIDE)),
                            (InUse, lambda: book.remove("empty")),
                            (InvalidName, lambda: book.__setitem__("A", WIDE)),
                            (NotAProgram, lambda: book.__setitem__("b", 1)),
                            (InvalidWish, lambda: book.wish(("alone",))),
                            (UnknownName, lambda: book.wish(("alone", "b", "any"))),
                            (UnknownName, lambda: book.remove("b")),
                            (Broken, lambda: book.wish(("alone", "wide", "any"))),
                            (InvalidIndex, lambda: book.lift(1))):
            with self.assertRaises(error):
                deed()
        book.undo()
        self.assertEqual(told(book), before)

    def test_what_is_taken_back_is_gone(self):
        book = Book()
        book["a"] = WIDE
        book["b"] = CLEAN
        book.undo()
        book["c"] = EMPTY
        self.assertEqual((book.names, book.changes), (("a", "c"), 2))
        book.undo()
        self.assertEqual((book.names, book.changes), (("a",), 1))
        book.undo()
        self.assertEqual((book.names, book.changes), ((), 0))

    def test_many_changes(self):
        book = Book()
        for number in range(3000):
            book["a"] = WIDE if number % 2 else CLEAN
        self.assertEqual(book.changes, 3000)
        while book.changes > 1:
            book.undo()
        self.assertEqual((book["a"], book.changes), (CLEAN, 1))


class Trials(WrongArguments):

    def test_one_that_ends_well(self):
        book = filled()
        with book.trial() as inside:
            self.assertIs(inside, book)
            book["a"] = WIDE
            book.wish(("alone", "empty", "any"))
        self.assertEqual((len(book), len(book.wishes), book.changes), (6, 1, 7))
        book.undo()
        book.undo()
        self.assertEqual(undone(book), undone(filled()))

    def test_one_that_ends_with_an_exception(self):
        book = filled()
        book.wish(WISHES[0])
        failure = Failure("x")
        with self.assertRaises(Failure) as caught:
            with book.trial():
                book["a"] = WIDE
                book["empty"] = CLEAN
                book.lift(0)
                book.remove("broad")
                raise failure
        self.assertIs(caught.exception, failure)
        self.assertEqual(undone(book), undone(copy_of_wishes(WISHES[:1])))

    def test_each_exception_is_passed_on(self):
        book = filled()
        for error in (ValueError, KeyError, StopIteration, KeyboardInterrupt, SystemExit, GeneratorExit,
                      NothingToUndo, AssertionError):
            with self.assertRaises(error):
                with book.trial():
                    book["a"] = WIDE
                    raise error()
            self.assertEqual(told(book), told(filled()))

    def test_an_error_of_the_book_itself(self):
        book = filled()
        with self.assertRaises(Broken):
            with book.trial():
                book["a"] = WIDE
                book.wish(("alone", "a", "behind"))
        self.assertEqual(told(book), told(filled()))
        with book.trial():
            book["a"] = WIDE
            with self.assertRaises(Broken):
                book.wish(("alone", "a", "behind"))
        self.assertEqual((book.changes, "a" in book), (6, True))

    def test_what_was_done_before_it_and_taken_back_in_it(self):
        book = filled()
        with self.assertRaises(Failure):
            with book.trial():
                while book.changes:
                    book.undo()
                book["other"] = WIDE
                raise Failure()
        self.assertEqual(undone(book), undone(filled()))
        book = filled()
        with book.trial():
            book.undo()
            book.undo()
        self.assertEqual((book.names, book.changes), (("clean", "empty", "wide"), 3))

    def test_as_it_was_when_its_rows_began(self):
        book = filled()
        trial = book.trial()
        book["a"] = WIDE
        with self.assertRaises(Failure):
            with trial:
                book["b"] = WIDE
                raise Failure()
        self.assertEqual((book.changes, "a" in book, "b" in book), (6, True, False))

    def test_rows_that_are_left_early(self):
        def leave(book):
            for _ in range(3):
                with book.trial():
                    book["a"] = WIDE
                    break
            with book.trial() as inside:
                inside["b"] = WIDE
                return len(inside)

        book = Book()
        self.assertEqual(leave(book), 2)
        self.assertEqual((book.names, book.changes), (("a", "b"), 2))

    def test_within_trials(self):
        for inner, outer in itertools.product((False, True), repeat=2):
            book = Book()
            book["a"] = WIDE
            try:
                with book.trial():
                    book["b"] = WIDE
                    try:
                        with book.trial():
                            book["c"] = WIDE
                            if inner:
                                raise Failure()
                    except Failure:
                        self.assertEqual((book.names, book.changes), (("a", "b"), 2))
                    book["d"] = WIDE
                    if outer:
                        raise Failure()
            except Failure:
                self.assertTrue(outer)
            wanted = ("a",) if outer else ("a", "b", "d") if inner else ("a", "b", "c", "d")
            self.assertEqual((book.names, book.changes), (wanted, len(wanted)))

    def test_an_exception_through_two_of_them(self):
        book = filled()
        with self.assertRaises(Failure):
            with book.trial():
                book["a"] = WIDE
                with book.trial():
                    book["b"] = WIDE
                    raise Failure()
        self.assertEqual(undone(book), undone(filled()))

    def test_two_books(self):
        one, other = filled(), filled()
        with self.assertRaises(Failure):
            with one.trial():
                one["a"] = WIDE
                other["b"] = WIDE
                with other.trial():
                    one["c"] = WIDE
                    other["d"] = WIDE
                raise Failure()
        self.assertEqual(told(one), told(filled()))
        self.assertEqual((other.changes, "b" in other, "d" in other), (7, True, True))
        with one.trial():
            one["a"] = WIDE
            with self.assertRaises(Failure):
                with other.trial():
                    one["c"] = WIDE
                    other["e"] = WIDE
                    raise Failure()
        self.assertEqual((one.changes, "a" in one, "c" in one), (7, True, True))
        self.assertEqual((other.changes, "e" in other), (7, False))

    def test_two_books_do_not_disturb_each_other(self):
        one, other = Book(), Book()
        one["a"] = WIDE
        other["a"] = CLEAN
        one.wish(("reach", "a", "any", 1, 1))
        self.assertEqual((other["a"], other.wishes, other.changes), (CLEAN, (), 1))
        one.undo()
        other.undo()
        self.assertEqual((one.names, other.names), (("a",), ()))

    def test_tried(self):
        book = filled()
        for answer in (None, 7, "x", [1], book, ValueError):
            def action(inside):
                self.assertIs(inside, book)
                inside["a"] = WIDE
                return answer

            self.assertIs(book.tried(action), answer)
        self.assertEqual(book.changes, 11)
        self.assertEqual(book.tried(action=len), 6)
        self.assertEqual(book.tried(list), list(book))

    def test_tried_with_an_exception(self):
        book = filled()

        def action(inside):
            inside["a"] = WIDE
            inside.undo()
            inside.undo()
            raise Failure()

        with self.assertRaises(Failure):
            book.tried(action)
        with self.assertRaises(Failure):
            book.tried(action=action)
        self.assertEqual(undone(book), undone(filled()))

    def test_tried_in_what_is_tried(self):
        book = Book()

        def inner(inside):
            inside["b"] = WIDE
            raise Failure()

        def outer(inside):
            inside["a"] = WIDE
            with self.assertRaises(Failure):
                inside.tried(inner)
            inside["c"] = WIDE
            return inside.names

        self.assertEqual(book.tried(outer), ("a", "c"))
        self.assertEqual(book.changes, 2)


def copy_of_wishes(wishes):
    """The book with some programs and these wishes."""
    book = filled()
    for wish in wishes:
        book.wish(wish)
    return book


class Drawn(WrongArguments):
    """Books against a plain row of their conditions."""

    def holds(self, wish, programs):
        """Whether a wish holds of these programs."""
        word, name, *rest = wish
        program = programs[name]
        if word == "never":
            try:
                return not can_hold(program, rest[0], rest[1], rounds=rest[2])
            except TooMany:
                return False
        if word == "alone":
            return lonely(program, rest[0])
        if word == "alike":
            return alike(program, programs[rest[0]], rest[1])
        distances = reach(program, rest[0])
        return all(most is None or distance is not None and distance <= most
                   for distance, most in zip(distances, rest[1:]))

    def drawn_wish(self, draw, names):
        """A wish of programs with these names."""
        name, other, plan = draw.choice(names), draw.choice(names), draw.choice(PLANS)
        return draw.choice((
            ("never", name, draw.choice(KINDS), plan, draw.choice((None, 1, 2, 6))),
            ("alone", name, plan), ("alike", name, other, plan),
            ("reach", name, plan, draw.choice((None, 0, 2)), draw.choice((None, 0, 3))),
        ))

    def put(self, conditions, name, program):
        """The condition behind a program that is put, or the index of the wish that is broken."""
        programs, wishes = conditions[-1]
        programs = {**programs, name: program}
        broken = [index for index, wish in enumerate(wishes) if not self.holds(wish, programs)]
        return broken[0] if broken else (programs, wishes)

    def test_drawn_deeds(self):
        draw = random.Random(5)
        pool = [Program(layers) for layers in drawn_programs(draw, 6, widest=4)] + [WIDE, CLEAN, EMPTY]
        refused = 0
        for _ in range(25):
            book, conditions = Book(), [({}, ())]
            for _ in range(60):
                programs, wishes = conditions[-1]
                way = draw.random()
                if way < 0.4 or not programs:
                    name, program = draw.choice("abcd"), draw.choice(pool)
                    reached = self.put(conditions, name, program)
                    call = lambda: book.__setitem__(name, program)
                elif way < 0.65:
                    wish = self.drawn_wish(draw, sorted(programs))
                    holds = self.holds(wish, programs)
                    reached = (programs, wishes + (wish,)) if holds else len(wishes)
                    call = lambda: book.wish(wish)
                elif way < 0.75 and wishes:
                    index = draw.randrange(len(wishes))
                    reached = (programs, wishes[:index] + wishes[index + 1:])
                    call = lambda: book.lift(index)
                elif way < 0.85:
                    name = draw.choice(sorted(programs))
                    using = [index for index, wish in enumerate(wishes)
                             if name == wish[1] or wish[0] == "alike" and name == wish[2]]
                    rest = {other: program for other, program in programs.items() if other != name}
                    reached = None if using else (rest, wishes)
                    call = lambda: book.remove(name)
                    if using:
                        self.assert_told(InUse, using[0], call)
                        refused += 1
                        continue
                else:
                    book.undo()
                    conditions.pop()
                    continue
                if isinstance(reached, int):
                    self.assert_told(Broken, reached, call)
                    refused += 1
                else:
                    self.assertIsNone(call())
                    conditions.append(reached)
                programs, wishes = conditions[-1]
                self.assertEqual(book.names, tuple(sorted(programs)))
                self.assertEqual({name: book[name] for name in book}, programs)
                self.assertEqual((book.wishes, book.changes), (wishes, len(conditions) - 1))
                self.assertTrue(all(self.holds(wish, programs) for wish in book.wishes))
        self.assertGreater(refused, 100)


class Form(WrongArguments):

    def test_the_properties_cannot_be_set(self):
        book = filled()
        for name in ("names", "wishes", "changes"):
            with self.assertRaises(AttributeError):
                setattr(book, name, ())
            self.assertIsInstance(vars(Book)[name], property)

    def test_the_methods_are_defined_in_the_class(self):
        self.assertEqual(Book.__module__, module.__name__)
        for name in ("remove", "wish", "lift", "undo", "trial", "tried", "__setitem__", "__getitem__",
                     "__contains__", "__len__", "__iter__"):
            self.assertIn(name, vars(Book))

    def test_what_is_passed_is_not_changed(self):
        book = filled()
        for wrong in (["alone", "clean", "any"], ("alone", ["clean"], "any"), {"alone": "clean"}):
            before = copy.deepcopy(wrong)
            self.assert_given(InvalidWish, wrong, lambda: book.wish(wrong))
            self.assert_given(UnknownName, wrong, lambda: book.remove(wrong))
            self.assert_given(InvalidName, wrong, lambda: book.__setitem__(wrong, WIDE))
            self.assert_given(InvalidIndex, wrong, lambda: book.lift(wrong))
            self.assertEqual(wrong, before)

    def test_what_a_book_has_told_does_not_change(self):
        book = filled()
        names, wishes, rows = book.names, book.wishes, iter(book)
        book.wish(WISHES[0])
        book.remove("wide")
        self.assertEqual((names, wishes), (("broad", "clean", "empty", "first", "wide"), ()))
        self.assertEqual(list(rows), ["broad", "clean", "empty", "first", "wide"])

    def test_books_in_the_same_condition_give_equal_results(self):
        one, other = filled(), filled()
        for book in (one, other):
            for wish in WISHES:
                book.wish(wish)
        self.assertEqual(undone(one), undone(other))


if __name__ == "__main__":
    unittest.main()
