"""All errors of the package, each with the values that tell what is wrong.

Lines are counted from 1, indexes and numbers from 0.
"""


class BindspanError(ValueError):
    """The base of all errors of the package."""


class BadModule(BindspanError):
    """Parts that are no module."""


class BadText(BindspanError):
    """A text that is not that of a module."""


class BadCaptures(BindspanError):
    """Pairs that are wrong, or too many."""


class BadEdit(BindspanError):
    """A question or an edit that the module does not allow."""


class BadScope(BindspanError):
    """Wrong bindings, names or engines of environments and scopes."""


class BadCaller(BindspanError):
    """A caller that does what the module does not offer."""


class BadQuestion(BindspanError):
    """A question about callers that has no answer."""


class BadBench(BindspanError):
    """A call on a bench that is refused."""


class BadTree(BadModule):
    """The part at this index is not well formed; the place is -1 if the parts are not a tuple."""

    def __init__(self, place):
        self.place = place


class Duplicate(BadModule):
    """The part at this line has the identifier of an earlier part."""

    def __init__(self, line, ident):
        self.line = line
        self.ident = ident


class Unknown(BadModule):
    """The statement at this line names what is not declared, or not as the right kind."""

    def __init__(self, line, ident):
        self.line = line
        self.ident = ident


class BadWord(BadModule):
    """The bind at this line gives a flag a word other than on and off."""

    def __init__(self, line, word):
        self.line = line
        self.word = word


class Repeated(BadModule):
    """The with list at this line has an identifier more than once."""

    def __init__(self, line, ident):
        self.line = line
        self.ident = ident


class OutOfOrder(BadModule):
    """The statement at this line names a function or slot that stands too low."""

    def __init__(self, line, ident):
        self.line = line
        self.ident = ident


class BadLine(BadText):
    """The line has none of the forms, or may not stand there."""

    def __init__(self, line):
        self.line = line


class TooDeep(BadText):
    """The statement at this line lies, or would lie, inside too many blocks."""

    def __init__(self, line):
        self.line = line


class Unclosed(BadText):
    """The function or block that begins at this line has no end."""

    def __init__(self, line):
        self.line = line


class BadPair(BadCaptures):
    """The value is not a pair of a number and an identifier."""

    def __init__(self, pair):
        self.pair = pair


class NoKeeping(BadCaptures):
    """The module has no keeping of this number, or no bound name of this identifier."""

    def __init__(self, number, ident):
        self.number = number
        self.ident = ident


class TooMany(BadCaptures):
    """There are too many free pairs: so many."""

    def __init__(self, many):
        self.many = many


class NoLine(BadEdit):
    """The text has no such line."""

    def __init__(self, line):
        self.line = line


class NoStatement(BadEdit):
    """No statement begins at this line."""

    def __init__(self, line):
        self.line = line


class NoPart(BadEdit):
    """No part has this identifier."""

    def __init__(self, ident):
        self.ident = ident


class InUse(BadEdit):
    """The statement at this line names the identifier."""

    def __init__(self, line, ident):
        self.line = line
        self.ident = ident


class NotWrapped(BadEdit):
    """The line does not begin a bind or apart."""

    def __init__(self, line):
        self.line = line


class NotCall(BadEdit):
    """The line is not that of a call."""

    def __init__(self, line):
        self.line = line


class BadIdent(BadEdit):
    """The value is not an identifier."""

    def __init__(self, ident):
        self.ident = ident


class Taken(BadEdit):
    """A part of the module has this identifier."""

    def __init__(self, ident):
        self.ident = ident


class NotBindings(BadScope):
    """The value is neither a dict nor an Env."""

    def __init__(self, value):
        self.value = value


class BadName(BadScope):
    """The key is not an identifier."""

    def __init__(self, name):
        self.name = name


class BadValue(BadScope):
    """The value is not one that a name can be bound to."""

    def __init__(self, value):
        self.value = value


class UnknownName(BadScope):
    """The name is not bound there."""

    def __init__(self, name):
        self.name = name


class NoEngine(BadScope):
    """The value is not an engine."""

    def __init__(self, value):
        self.value = value


class BadScript(BadCaller):
    """The move that is written at this number is wrong."""

    def __init__(self, number):
        self.number = number


class NoTarget(BadCaller):
    """The caller cannot reach this target."""

    def __init__(self, target):
        self.target = target


class BadBinding(BadCaller):
    """The key is not a bound name, or its value does not suit it."""

    def __init__(self, key):
        self.key = key


class NotComparable(BadQuestion):
    """The two modules differ in their interface: in their names, functions or slots."""

    def __init__(self, what):
        self.what = what


class NotSeen(BadQuestion):
    """No caller makes this row appear."""

    def __init__(self, row):
        self.row = row


class GuardTwice(BadBench):
    """The bench has an equal guard."""

    def __init__(self, guard):
        self.guard = guard


class NoGuard(BadBench):
    """The bench has no guard at this index."""

    def __init__(self, number):
        self.number = number


class NoKind(BadBench):
    """There is no such kind of sources."""

    def __init__(self, kind):
        self.kind = kind


class NothingToUndo(BadBench):
    """Every change was taken back."""


class Broken(BadBench):
    """The new module does not keep this guard; the script, if there is one, shows it."""

    def __init__(self, guard, script):
        self.guard = guard
        self.script = script


class Failed(BindspanError):
    """A caller's callback raises it to fail."""


class MoveFailed(Failed):
    """The move of this number failed, by the callback of the other number or, with None, by a statement."""

    def __init__(self, number, by):
        self.number = number
        self.by = by
