"""The rows of a module, made ready for running over values of any kind in place of words."""

from bindspan.forms import STATEMENTS
from bindspan.lines import beginnings

# The number of the rows without statements.
NO_ROWS = 0


class Program:
    """The statements of a module, with numbers in place of identifiers and of the rows inside of them.

    An environment is a tuple of values in the order of the bound names. A flag has the value on or off. What a name
    can have is left to those who run the program: paint(word, source) tells the value of a word for a name. The source
    is ("default", name) or ("bind", line).
    """

    def __init__(self, module, paint):
        self.bound = module.bound
        self.names = module.idents("name")
        self.slots = module.idents("slot")
        self.funcs = module.idents("func")
        self.paint = paint
        self.defaults = tuple([self._value(ident, module.part(ident)[2], ("default", ident)) for ident in self.bound])
        self.lines = {path: line for line, _, path in beginnings(module.parts)}
        # The rows of the functions have the numbers from 1 on, in the order of declaration.
        self.rows = [() for _ in range(len(self.funcs) + 1)]
        for place, part in enumerate(module.parts):
            if part[0] == "func":
                self.rows[self.func(part[1])] = self._steps(part[3], (place, 3))

    def func(self, ident):
        """The number of the rows of a function."""
        return self.funcs.index(ident) + 1

    def slot(self, ident):
        """The number of a slot."""
        return self.slots.index(ident)

    def _value(self, ident, word, source):
        """The value of a word for a name or a flag."""
        return self.paint(word, source) if ident in self.names else word

    def _steps(self, rows, path):
        """What stands for the rows at the path."""
        return tuple([self._step(row, (*path, at)) for at, row in enumerate(rows)])

    def _step(self, row, path):
        """What stands for the statement at the path."""
        items = [row[0]]
        for at, role in enumerate(STATEMENTS[row[0]], start=1):
            items.append(self._item(role, row, at, path))
        return tuple(items)

    def _item(self, role, row, at, path):
        """What stands for the item of a statement at this index."""
        item = row[at]
        if role == "rows":
            return self._inner(item, (*path, at))
        if role == "captured":
            return tuple([ident in item for ident in self.bound])
        if role == "worth":
            return self._worth(row[1], item, self.lines[path])
        if role == "slot":
            return self.slot(item)
        if role == "func":
            return self.func(item)
        # What is left are tags and bound names.
        return item if role == "word" else self.bound.index(item)

    def _inner(self, rows, path):
        """The number of the rows at the path."""
        if not rows:
            return NO_ROWS
        number = len(self.rows)
        self.rows.append(())
        self.rows[number] = self._steps(rows, path)
        return number

    def _worth(self, ident, worth, line):
        """What a bind gives: a pair of None and a value, or of the index of a bound name and None."""
        if worth[0] == "of":
            return (self.bound.index(worth[1]), None)
        return (None, self._value(ident, worth[1], ("bind", line)))


def plain(module):
    """The program of the module over its own words."""
    return Program(module, lambda word, source: word)
