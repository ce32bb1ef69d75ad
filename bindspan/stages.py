"""Modules in use: their slots, and what has happened so far."""

from bindspan.courses import Course
from bindspan.programs import plain


class Stage:
    """A module in use, from its first move on. Environments are tuples of words in the order of the bound names."""

    def __init__(self, module):
        self.program = plain(module)
        self.slots = [None for _ in self.program.slots]
        self.events = []
        # The setting of each move that has begun.
        self.settings = []
        # How many moves have begun and not ended.
        self.begun = 0

    def move(self, kind, target, setting, react):
        """Makes one move. What a caller's callback does is react(number, env), which returns its ending.

        Returns whether the move failed, and the number of the callback whose raising made it fail.
        """
        number = len(self.settings)
        self.settings.append(setting)
        course = Course(self.program, self.slots, _swapped(number), self.events)
        before = self.begun
        self.begun = before + 1
        try:
            self._perform(course, kind, target, setting, react)
        finally:
            self.begun = before
        self.events.append(("end", number, "raise" if course.failed else "return"))
        return (course.failed, None if course.by is None else _swapped(course.by))

    def _perform(self, course, kind, target, setting, react):
        """Carries the move out to its end."""
        course.begin(kind, target, setting)
        while course.waiting is not None:
            code, env = course.waiting
            self.events.append(("ran", _swapped(code), env))
            ending = react(_swapped(code), env)
            course.resume(ending, code)

    def bindings(self, env):
        """What an environment or a capture gives, as a new dict."""
        return {ident: value for ident, value in zip(self.program.bound, env) if value is not None}

    def content(self, slot):
        """The code and the capture that a slot holds; None if it is empty."""
        content = self.slots[self.program.slot(slot)]
        if content is None:
            return None
        code, capture = content
        shown = ("caller", _swapped(code)) if code < 0 else ("func", self.program.funcs[code - 1])
        return (shown, self.bindings(capture))


def _swapped(number):
    """The code of the callback with this number, and the number of the callback with this code."""
    return -1 - number
