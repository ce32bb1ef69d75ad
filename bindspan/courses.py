"""Moves under way: what each statement does, until a caller's callback is run or the move has ended.

A content of a slot is None or a pair of a code and a capture. The code is the number of the rows of a function, or a
negative number for a caller's callback. The capture has a value for each captured bound name and None for the others.
"""


class Course:
    """One move in one module, from one run of a caller's callback to the next."""

    def __init__(self, program, slots, code, events, frames=()):
        self.program = program
        self.slots = slots
        # What the statement take puts into a slot.
        self.code = code
        # What is still to be run, the innermost last: numbers of rows, the index in them, their environment. An index
        # of -1 stands for a guard whose first rows are running.
        self.frames = list(frames)
        # Where looks are told.
        self.events = events
        # The code of the caller's callback that is running, and the environment that it sees.
        self.waiting = None
        self.failed = False
        # The code of the callback whose raising made the move fail; None if a statement fail did.
        self.by = None

    def begin(self, kind, target, env):
        """Begins a move of this kind in its setting."""
        if kind == "call":
            self.push(self.program.func(target), env)
        else:
            _run(self, env, ("run", self.program.slot(target)))
        self.proceed()

    def resume(self, ending, code):
        """Goes on behind the run of the caller's callback with this code."""
        self.waiting = None
        if ending == "raise":
            self.fail(code)
        self.proceed()

    def proceed(self):
        """Runs statements until a caller's callback is run or nothing is left."""
        frames = self.frames
        rows = self.program.rows
        while frames and self.waiting is None:
            number, at, env = frames.pop()
            if at >= 0:
                steps = rows[number]
                # Rows that have no further statement are given up before, so that fewer situations differ.
                if at + 1 < len(steps):
                    frames.append((number, at + 1, env))
                step = steps[at]
                action = ACTIONS[step[0]]
                action(self, env, step)

    def push(self, number, env):
        """Has the rows run next."""
        if self.program.rows[number]:
            self.frames.append((number, 0, env))

    def fail(self, by):
        """Gives up what is running, up to the innermost guard."""
        while self.frames:
            number, at, env = self.frames.pop()
            if at < 0:
                self.push(number, env)
                return
        self.failed = True
        self.by = by


def _look(course, env, step):
    course.events.append(("look", step[1], env[step[2]]))


def _bind(course, env, step):
    _, at, worth, rows = step
    value = worth[1] if worth[0] is None else env[worth[0]]
    course.push(rows, (*env[:at], value, *env[at + 1:]))


def _call(course, env, step):
    course.push(step[1], env)


def _keep(course, env, step):
    course.slots[step[1]] = (step[2], _captured(env, step[3]))


def _take(course, env, step):
    course.slots[step[1]] = (course.code, _captured(env, step[2]))


def _shift(course, env, step):
    content = course.slots[step[1]]
    if content is not None:
        course.slots[step[1]] = None
        course.slots[step[2]] = (content[0], _over(_captured(env, step[3]), content[1]))


def _run(course, env, step):
    content = course.slots[step[1]]
    if content is None:
        return
    inner = _over(env, content[1])
    if content[0] < 0:
        course.waiting = (content[0], inner)
    else:
        course.push(content[0], inner)


def _drop(course, env, step):
    course.slots[step[1]] = None


def _apart(course, env, step):
    course.push(step[1], course.program.defaults)


def _when(course, env, step):
    course.push(step[2] if env[step[1]] == "on" else step[3], env)


def _held(course, env, step):
    course.push(step[3] if course.slots[step[1]] is None else step[2], env)


def _fail(course, env, step):
    course.fail(None)


def _guard(course, env, step):
    course.frames.append((step[2], -1, env))
    course.push(step[1], env)


ACTIONS = {
    "look": _look, "bind": _bind, "call": _call, "keep": _keep, "take": _take, "shift": _shift, "run": _run,
    "drop": _drop, "apart": _apart, "when": _when, "held": _held, "fail": _fail, "guard": _guard,
}


def _captured(env, chosen):
    """The capture of the bound names for which chosen has True."""
    return tuple([value if there else None for value, there in zip(env, chosen)])


def _over(env, capture):
    """The environment or capture with what another capture gives in place of its own."""
    return tuple([value if over is None else over for value, over in zip(env, capture)])
