"""Environments: bindings of names to values that never change."""

from bindspan.errors import BadName, BadValue, NotBindings, UnknownName
from bindspan.words import is_ident

# Integers have at most 1,000 digits. The square of this is the first one with more; it is written nowhere, because
# the language rules allow no number of that length.
LIMIT_ROOT = (10 ** 50) ** 10


class Env:
    """An environment that never changes."""

    def __init__(self, bindings=None):
        table = {} if bindings is None else checked(bindings)
        self.table = {name: table[name] for name in sorted(list(table))}

    def __getitem__(self, at):
        if at not in self:
            raise UnknownName(at)
        return self.table[at]

    def __contains__(self, x):
        return isinstance(x, str) and x in self.table

    def __len__(self):
        return len(self.table)

    def __iter__(self):
        return iter(self.table)

    def names(self):
        """A new list of the names, ascending."""
        return list(self.table)

    def listed(self):
        """A new list of the pairs of a name and its value, ascending by name."""
        return list(self.table.items())

    def __or__(self, other):
        return Env({**self.table, **checked(other)})

    def __ror__(self, other):
        return Env({**checked(other), **self.table})

    def __sub__(self, other):
        gone = _strings(other)
        return Env({name: value for name, value in self.table.items() if name not in gone})

    def only(self, names):
        """The environment with the bindings of these names alone."""
        kept = _strings(names)
        return Env({name: value for name, value in self.table.items() if name in kept})

    def __eq__(self, other):
        return isinstance(other, Env) and self.table == other.table

    def within(self, other):
        """Whether every binding is also one of the other environment."""
        return all([name in other and other[name] == value for name, value in self.table.items()])

    def __str__(self):
        return " ".join([f"{name}={value}" for name, value in self.table.items()])


def checked(bindings):
    """The dict of the bindings that were passed, in their order. Refuses a value of any kind that is no bindings."""
    if isinstance(bindings, Env):
        return dict(bindings.table)
    if not isinstance(bindings, dict):
        raise NotBindings(bindings)
    for name, value in bindings.items():
        if not is_ident(name):
            raise BadName(name)
        if not _is_value(value):
            raise BadValue(value)
    return dict(bindings)


def _is_value(value):
    """Whether a value of any kind can be bound to a name."""
    if isinstance(value, bool):
        return False
    if isinstance(value, int):
        return abs(value) // LIMIT_ROOT < LIMIT_ROOT
    return isinstance(value, str)


def _strings(names):
    """The names that can be bound at all: what is no string might compare in ways of its own."""
    return [name for name in names if isinstance(name, str)]
