"""Modules: parts that were checked, with their lines and what callers need to know of them."""

from bindspan.captures import Captures
from bindspan.checks import check, check_names, keepings
from bindspan.errors import NoKeeping, NoLine, NoPart, NoStatement
from bindspan.forms import STATEMENTS
from bindspan.lines import laid_out
from bindspan.texts import parse
from bindspan.trees import bound_names, replaced

# For each kind of part that callers can reach the kind of move that uses it.
MOVES = {"slot": "run", "func": "call"}


class Module:
    """A module that never changes."""

    def __init__(self, parts):
        self.parts = check(parts)
        self.bound = bound_names(self.parts)
        self.targets = _targets(self.parts)
        self.keepings = keepings(self.parts)
        self.captures = _captures(self.keepings)
        self.layout = laid_out(self.parts)
        self.lines = [row[0] for row in self.layout]

    @classmethod
    def read(cls, text):
        """The module with this text."""
        parts, lines = parse(text)
        # This step is taken here too, because its errors tell lines of this text, not of the canonical one.
        check_names(parts, lines)
        return cls(parts)

    def __str__(self):
        return "\n".join(self.lines)

    def __len__(self):
        return len(self.lines)

    def __getitem__(self, at):
        return self._row(at)[0]

    def __iter__(self):
        return iter(self.lines)

    def __eq__(self, other):
        return isinstance(other, Module) and self.parts == other.parts

    def idents(self, kind):
        """The identifiers of the parts of this kind, in the order of declaration."""
        return tuple([part[1] for part in self.parts if part[0] == kind])

    def part(self, ident):
        """The part with this identifier."""
        for part in self.parts:
            if part[1] == ident:
                return part
        raise NoPart(ident)

    def statement(self, line):
        """The statement that begins at this line."""
        node, _ = self.spot(line)
        if node is None or node[0] not in STATEMENTS:
            raise NoStatement(line)
        return node

    def spot(self, line):
        """What begins at this line, None if nothing does, and a path: both as laid_out tells them."""
        _, node, path = self._row(line)
        return (node, path)

    def _row(self, line):
        """The row of the layout for this line."""
        if not 1 <= line <= len(self.layout):
            raise NoLine(line)
        return self.layout[line - 1]

    def with_captures(self, captures):
        """The module with these captures in place of its own."""
        for number, ident in captures:
            if number >= len(self.keepings) or ident not in self.bound:
                raise NoKeeping(number, ident)
        parts = self.parts
        for number, row in enumerate(self.keepings):
            node, path = self.spot(row[0])
            parts = replaced(parts, path, ((*node[:-1], captures.at(number)),))
        return Module(parts)

    def full(self):
        """The module in which each with list has all bound names."""
        pairs = [(number, ident) for number in range(len(self.keepings)) for ident in self.bound]
        return self.with_captures(Captures(pairs))

    def bare(self):
        """The module in which each with list is empty."""
        return self.with_captures(Captures())


def _targets(parts):
    """What a caller can reach, in the order of declaration."""
    return tuple([(MOVES[part[0]], part[1]) for part in parts if part[0] in MOVES and part[2] == "open"])


def _captures(rows):
    """What these keepings capture."""
    return Captures([(number, ident) for number, row in enumerate(rows) for ident in row[3]])
