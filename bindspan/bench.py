"""Benches: modules that are changed step by step, under guards that speak of all callers."""

from bindspan.edits import inlined, unwrapped, without
from bindspan.errors import Broken, GuardTwice, NoGuard, NoKind, NotComparable, NothingToUndo
from bindspan.parting import check_comparable, parted
from bindspan.views import ANY_KIND, look_script_of_kind

KINDS = ("default", "bind", "now", "outer", "ended")


class Bench:
    """A module with guards, which no change may break."""

    def __init__(self, module, *, depth=None):
        self.now = module
        self.most = depth
        self.kept = ()
        # The modules before the changes that were not taken back.
        self.past = ()

    @property
    def module(self):
        """The module of the bench."""
        return self.now

    @module.setter
    def module(self, value):
        self.change(value)

    def never(self, tag, kind):
        """Adds the guard that no look with this tag shows a word from a source of this kind."""
        if kind not in KINDS:
            raise NoKind(kind)
        self._add(("never", tag, kind))

    def shown(self, tag):
        """Adds the guard that some look with this tag happens."""
        self._add(("shown", tag))

    def like(self, other):
        """Adds the guard that the module is alike another one."""
        check_comparable(self.now, other)
        self._add(("like", other))

    def guards(self):
        """A new list of the guards in the order in which they were added."""
        return list(self.kept)

    def lift(self, number):
        """Removes the guard at this index."""
        if not 0 <= number < len(self.kept):
            raise NoGuard(number)
        self.kept = (*self.kept[:number], *self.kept[number + 1:])

    def change(self, other):
        """Replaces the module by another one."""
        self._check_all(other)
        self.past = (*self.past, self.now)
        self.now = other

    def erase(self, line):
        """Removes the statement or the part that begins at the line."""
        self.change(without(self.now, line))

    def unwrap(self, line):
        """Puts the rows of the bind or apart at the line in its place."""
        self.change(unwrapped(self.now, line))

    def inline(self, line):
        """Puts the rows of the function that is called at the line in place of the call."""
        self.change(inlined(self.now, line))

    def capture(self, number, name):
        """Has the keeping with this number capture the name."""
        self.change(self.now.with_captures(self.now.captures | [(number, name)]))

    def release(self, number, name):
        """Has the keeping with this number not capture the name."""
        self.change(self.now.with_captures(self.now.captures - [(number, name)]))

    def undo(self):
        """Takes back the latest change that was not taken back yet."""
        if not self.past:
            raise NothingToUndo()
        self._check_all(self.past[-1])
        self.now = self.past[-1]
        self.past = self.past[:-1]

    @property
    def changes(self):
        """The number of changes that are not taken back."""
        return len(self.past)

    def trial(self, action):
        """Calls the action with the bench, and takes back all that it did with it. Returns its result."""
        now, kept, past = self.now, self.kept, self.past
        try:
            return action(self)
        finally:
            self.now, self.kept, self.past = now, kept, past

    def _add(self, guard):
        """Adds a guard behind the others."""
        if guard in self.kept:
            raise GuardTwice(guard)
        self._check(self.now, guard)
        self.kept = (*self.kept, guard)

    def _check_all(self, module):
        """Refuses a module that does not keep all guards."""
        for guard in self.kept:
            self._check(module, guard)

    def _check(self, module, guard):
        """Refuses a module that does not keep the guard."""
        if guard[0] == "never":
            script = look_script_of_kind(module, guard[1], guard[2], self.most)
            if script is not None:
                raise Broken(guard, script)
        elif guard[0] == "shown":
            if look_script_of_kind(module, guard[1], ANY_KIND, self.most) is None:
                raise Broken(guard, None)
        else:
            self._check_like(module, guard)

    def _check_like(self, module, guard):
        """Refuses a module that is not alike that of the guard."""
        try:
            check_comparable(module, guard[1])
        except NotComparable:
            raise Broken(guard, None) from None
        script = parted(module, guard[1], self.most, True)
        if script is not None:
            raise Broken(guard, script)
