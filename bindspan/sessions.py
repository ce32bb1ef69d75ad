"""Sessions: modules that are used by live callers, one move at a time."""

from bindspan.errors import BadBinding, Failed, MoveFailed, NoTarget
from bindspan.scripts import fits_binding
from bindspan.stages import Stage


class Session:
    """A module that is used by live callers."""

    def __init__(self, module):
        self.used = module
        self.stage = Stage(module)
        # The environment around a move that is made now.
        self.around = self.stage.program.defaults
        # The callback that was handed in with each move.
        self.given = []

    def call(self, target, bindings=None, *, given=None):
        """Calls an open function. Returns the number of the move."""
        return self._move("call", target, bindings, given)

    def run(self, target, bindings=None, *, given=None):
        """Runs an open slot. Returns the number of the move."""
        return self._move("run", target, bindings, given)

    def setting(self, number):
        """A new dict of what the setting of a move gave."""
        return self.stage.bindings(self.stage.settings[number])

    def content(self, slot):
        """The code and the capture that a slot holds; None if it is empty."""
        if not isinstance(slot, str) or slot not in self.used.idents("slot"):
            raise NoTarget(slot)
        return self.stage.content(slot)

    @property
    def trace(self):
        """A new list of the events so far."""
        return list(self.stage.events)

    @property
    def depth(self):
        """The number of moves that have begun and not ended."""
        return self.stage.begun

    def _move(self, kind, target, bindings, given):
        """Makes one move."""
        if not isinstance(target, str) or (kind, target) not in self.used.targets:
            raise NoTarget(target)
        words = {} if bindings is None else dict(bindings)
        for key, value in words.items():
            if not fits_binding(self.used, key, value):
                raise BadBinding(key)
        setting = tuple([words.get(ident, word) for ident, word in zip(self.used.bound, self.around)])
        number = len(self.given)
        self.given.append(given)
        failed, by = self.stage.move(kind, target, setting, lambda which, env: self._react(which, env))
        if failed:
            raise MoveFailed(number, by)
        return number

    def _react(self, number, env):
        """Has a caller's callback run in this environment. Returns its ending."""
        given = self.given[number]
        if given is None:
            return "return"
        before = self.around
        self.around = env
        try:
            given(self.stage.bindings(env))
        except Failed:
            return "raise"
        finally:
            self.around = before
        return "return"
