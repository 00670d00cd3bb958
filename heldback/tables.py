"""Tables: which cells are put back when a part breaks off in which way."""

from heldback.errors import NoSquare, NotName, NotTruth, NoWay, Uneven, UnlikeTables
from heldback.kinds import is_list, is_name
from heldback.likeness import alike
from heldback.parts import Part
from heldback.steps import all_steps, held_in, rebuilt, with_held


class Table:
    """A table, which tells for some cells and some ways whether a cell is put back in a way."""

    def __init__(self, cells, ways, squares=()):
        for key in [*cells, *ways]:
            if not is_name(key):
                raise NotName(key)
        self.cell_names = sorted(set(cells))
        self.way_names = sorted(set(ways))
        # The operators make tables, and may change no item of what an object holds: a new dict gets the squares.
        board = {}
        for cell in self.cell_names:
            for way in self.way_names:
                board[cell, way] = False
        for square in squares:
            if not is_square(board, square):
                raise NoSquare(square)
            board[square[0], square[1]] = True
        # All squares in ascending order, and whether they are put back.
        self.board = board

    def cells(self):
        """The ascending list of the cells."""
        return list(self.cell_names)

    def ways(self):
        """The ascending list of the ways."""
        return list(self.way_names)

    def squares(self):
        """The ascending list of the squares that are put back."""
        return [square for square in self.board if self.board[square]]

    def twin(self):
        """Another table that is as this one is."""
        return Table(self.cell_names, self.way_names, self.squares())

    def within(self, other):
        """Tells whether the other table puts back all squares that this one puts back."""
        check_like(self, other)
        return all([other.board[square] for square in self.squares()])

    def __getitem__(self, at):
        if not is_square(self.board, at):
            raise NoSquare(at)
        return self.board[at[0], at[1]]

    def __setitem__(self, at, worth):
        if not is_square(self.board, at):
            raise NoSquare(at)
        if not isinstance(worth, bool):
            raise NotTruth(worth)
        self.board[at[0], at[1]] = worth

    def __iter__(self):
        raise TypeError("a table is not iterated over; its squares are")

    def __contains__(self, x):
        return is_square(self.board, x) and self.board[x[0], x[1]]

    def __len__(self):
        return len(self.squares())

    def __eq__(self, other):
        return isinstance(other, Table) and are_like(self, other) and self.board == other.board

    def __or__(self, other):
        if not isinstance(other, Table):
            return NotImplemented
        check_like(self, other)
        return with_squares(self, [square for square in self.board if self.board[square] or other.board[square]])

    def __and__(self, other):
        if not isinstance(other, Table):
            return NotImplemented
        check_like(self, other)
        return with_squares(self, [square for square in self.board if self.board[square] and other.board[square]])

    def __sub__(self, other):
        if not isinstance(other, Table):
            return NotImplemented
        check_like(self, other)
        return with_squares(self, [square for square in self.board if self.board[square] and not other.board[square]])

    def __xor__(self, other):
        if not isinstance(other, Table):
            return NotImplemented
        check_like(self, other)
        return with_squares(self, [square for square in self.board if self.board[square] != other.board[square]])

    def __ior__(self, other):
        self.board = (self | other).board
        return self

    def __iand__(self, other):
        self.board = (self & other).board
        return self

    def __isub__(self, other):
        self.board = (self - other).board
        return self

    def __ixor__(self, other):
        self.board = (self ^ other).board
        return self


def is_square(board, thing):
    """Tells whether an object is one of the squares of a table."""
    if not is_list(thing) or len(thing) != 2 or not is_name(thing[0]) or not is_name(thing[1]):
        return False
    return (thing[0], thing[1]) in board


def are_like(one, other):
    """Tells whether two tables have the same cells and the same ways."""
    return one.cell_names == other.cell_names and one.way_names == other.way_names


def check_like(one, other):
    """Raises UnlikeTables if two tables have unlike cells or unlike ways."""
    if not are_like(one, other):
        raise UnlikeTables()


def with_squares(table, squares):
    """The table of the same cells and ways that puts back these squares."""
    return Table(table.cell_names, table.way_names, squares)


def way_of(step):
    """The way in which a step puts back the cells that it holds; None for a step that has no held."""
    if step[0] == "catch":
        return step[1]
    return "back" if step[0] in ("either", "whether", "each") else None


def by_table(part, table):
    """The part whose steps hold the cells that the table puts back in their ways."""
    held = {way: [cell for cell in table.cells() if table[cell, way]] for way in table.ways()}
    ways = [way_of(step) for step in all_steps(part.steps())]
    missing = [way for way in ways if way is not None and way not in held]
    if missing:
        raise NoWay(min(missing))
    return Part(rebuilt(part.steps(), lambda path, step: (with_held(step, held.get(way_of(step), ())),)))


def table_of(part):
    """The table with the cells and the ways of a part, which puts back what its steps hold."""
    held = {}
    uneven = []
    for step in all_steps(part.steps()):
        way = way_of(step)
        if way is not None and sorted(held_in(step)) != held.setdefault(way, sorted(held_in(step))):
            uneven.append(way)
    if uneven:
        raise Uneven(min(uneven))
    return Table(part.cells(), list(held), [(cell, way) for way in held for cell in held[way]])


def matters(part, table):
    """The ascending list of the squares that make a difference to the part by the table."""
    told = by_table(part, table)
    squares = [(cell, way) for cell in table.cells() for way in table.ways()]
    return [square for square in squares if not alike(told, by_table(part, turned(table, square)))]


def turned(table, square):
    """The table in which just this square is turned round."""
    other = table.twin()
    other[square] = not other[square]
    return other
