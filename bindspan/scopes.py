"""Scopes: names that are bound for the time of an action, and actions that are kept with what they saw."""

from bindspan.envs import Env, checked
from bindspan.errors import NoEngine, UnknownName

ENGINES = ("chain", "cells")


class Layer:
    """Bindings that lie over those of a parent. The root has none."""

    def __init__(self, table, parent):
        self.table = table
        self.parent = parent
        self.level = 0 if parent is None else parent.level + 1


class Scope:
    """A fixed set of names, whose values lie in layers."""

    def __init__(self, defaults, engine="chain"):
        self.root = Layer(Env(checked(defaults)).table, None)
        self.layer = self.root
        # The layer at which the table of the engine cells stands.
        self.stand = self.root
        self.taken = 0
        self.use(engine)

    def during(self, bindings, action):
        """Runs the action in a layer with these bindings."""
        table = self._own(bindings)
        before = self.layer
        self.layer = Layer(table, before)
        try:
            return action(self)
        finally:
            self.layer = before

    def binding(self, bindings):
        """What makes a layer with these bindings for the block of one with statement."""
        return Span(self, self._own(bindings))

    def apart(self, action):
        """Runs the action in the root."""
        before = self.layer
        self.layer = self.root
        try:
            return action(self)
        finally:
            self.layer = before

    def look(self, name):
        """The current value of the name. This takes steps."""
        layer = self._binder(name)
        if self.engine == "chain":
            self.taken += self.layer.level - layer.level + 1
        else:
            self.taken += _way(self.stand, self.layer) + 1
            self.stand = self.layer
        return layer.table[name]

    def __getitem__(self, at):
        return self._binder(at).table[at]

    def __contains__(self, x):
        return isinstance(x, str) and x in self.root.table

    def __iter__(self):
        return iter(self.root.table)

    def names(self):
        """A new list of the names, ascending."""
        return list(self.root.table)

    def current(self):
        """The environment with the current values of all names."""
        return Env({name: self[name] for name in self.root.table})

    def keep(self, action, names=()):
        """Keeps the action together with the current values of the names."""
        return Kept(action, Env({name: self[name] for name in names}), self)

    @property
    def depth(self):
        """The number of layers from the current one to the root, the root not counted."""
        return self.layer.level

    @property
    def steps(self):
        """The number of all steps since the scope was made."""
        return self.taken

    @property
    def engine(self):
        """The engine, which decides how many steps a look takes."""
        return self.mode

    @engine.setter
    def engine(self, value):
        self.use(value)

    def use(self, engine):
        """Assigns the engine."""
        if not isinstance(engine, str) or engine not in ENGINES:
            raise NoEngine(engine)
        self.mode = engine

    def _own(self, bindings):
        """The dict of the bindings that were passed. Refuses a name that the scope does not have."""
        table = checked(bindings)
        for name in table:
            if name not in self:
                raise UnknownName(name)
        return table

    def _binder(self, name):
        """The nearest layer that binds the name."""
        if name not in self:
            raise UnknownName(name)
        layer = self.layer
        while name not in layer.table:
            layer = layer.parent
        return layer


class Span:
    """The time of one with statement, for which a layer is current."""

    def __init__(self, scope, table):
        self.scope = scope
        self.table = table
        self.before = None

    def __enter__(self):
        self.before = self.scope.layer
        self.scope.layer = Layer(self.table, self.before)
        return self.scope

    def __exit__(self, kind, value, trace):
        self.scope.layer = self.before


class Kept:
    """An action with a record of what some names were when it was kept."""

    def __init__(self, action, record, home):
        self.action = action
        self.record = record
        self.home = home

    def __call__(self, scope=None):
        if scope is None:
            return self.home.during(self.record, self.action)
        return scope.during(self.record, self.action)

    def also(self, names):
        """The same action with a record that has also the values that these names have in the home now."""
        fresh = self.home.keep(self.action, names)
        return Kept(self.action, fresh.record | self.record, self.home)

    def __getitem__(self, at):
        return self.record[at]

    def __contains__(self, x):
        return x in self.record

    def __len__(self):
        return len(self.record)

    def __iter__(self):
        return iter(self.record.table)


def _way(here, there):
    """The number of the bindings in the layers on the way between two layers, without the topmost one."""
    many = 0
    while here != there:
        if here.level < there.level:
            here, there = there, here
        many += len(here.table)
        here = here.parent
    return many
