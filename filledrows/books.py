"""Books: programs under names, and wishes that hold after each change."""

from filledrows.errors import (Broken, InUse, InvalidIndex, InvalidName, InvalidWish, NothingToUndo,
                               UnknownName)
from filledrows.lines import is_integer
from filledrows.programs import check_program
from filledrows.wishes import is_kept, is_name, is_wish, names_of


class Shelf:
    """What stands in a book behind some changes; it is never changed itself.

    `before` is the shelf before the last of these changes, None if there was none.
    """

    def __init__(self, programs, asked, before, depth):
        self.programs = programs
        self.order = tuple(sorted(programs))
        self.asked = asked
        self.before = before
        self.depth = depth


class Book:
    """Programs under names, and a row of wishes."""

    def __init__(self):
        self._shelf = Shelf({}, (), None, 0)

    @property
    def names(self):
        """The names, ascending."""
        return self._shelf.order

    @property
    def wishes(self):
        """The wishes, in the order in which they were made."""
        return self._shelf.asked

    @property
    def changes(self):
        """How many changes can be taken back."""
        return self._shelf.depth

    def __contains__(self, x):
        return isinstance(x, str) and x in self._shelf.programs

    def __len__(self):
        return len(self._shelf.programs)

    def __bool__(self):
        return True

    def __iter__(self):
        return iter(self._shelf.order)

    def __eq__(self, other):
        return isinstance(other, Book) and self is other

    def __getitem__(self, at):
        if at not in self:
            raise UnknownName(at)
        return self._shelf.programs[at]

    def __setitem__(self, at, worth):
        if not is_name(at):
            raise InvalidName(at)
        check_program(worth)
        programs = self._copied()
        programs[at] = worth
        for index, wish in enumerate(self.wishes):
            if at in names_of(wish) and not is_kept(wish, programs):
                raise Broken(index)
        self._change(programs, self.wishes)

    def remove(self, name):
        """Takes away what stands under the name."""
        if name not in self:
            raise UnknownName(name)
        for index, wish in enumerate(self.wishes):
            if name in names_of(wish):
                raise InUse(index)
        programs = self._copied()
        del programs[name]
        self._change(programs, self.wishes)

    def wish(self, wish):
        """Makes a wish more, behind the others."""
        if not is_wish(wish):
            raise InvalidWish(wish)
        for name in names_of(wish):
            if name not in self:
                raise UnknownName(name)
        programs = self._copied()
        if not is_kept(wish, programs):
            raise Broken(len(self.wishes))
        self._change(programs, self.wishes + (wish,))

    def lift(self, index):
        """Takes a wish away."""
        if not is_integer(index) or not 0 <= index < len(self.wishes):
            raise InvalidIndex(index)
        self._change(self._copied(), self.wishes[:index] + self.wishes[index + 1:])

    def undo(self):
        """Takes back the last change that is not taken back yet."""
        if self._shelf.before is None:
            raise NothingToUndo()
        self._shelf = self._shelf.before

    def trial(self):
        """For one `with` statement: if its rows end with an exception, the book is as before."""
        return Trial(self)

    def tried(self, action):
        """What the action returns, called with the book within a trial."""
        with self.trial() as book:
            return action(book)

    def _copied(self):
        return {name: program for name, program in self._shelf.programs.items()}

    def _change(self, programs, asked):
        self._shelf = Shelf(programs, asked, self._shelf, self._shelf.depth + 1)


class Trial:
    """The rows of a `with` statement that change a book only if they end without an exception."""

    def __init__(self, book):
        self.book = book
        self.kept = None

    def __enter__(self):
        self.kept = self.book._shelf
        return self.book

    def __exit__(self, kind, value, trace):
        book = self.book
        if kind is not None:
            book._shelf = self.kept
