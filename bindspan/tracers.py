"""One module with all its callers, as rules of a search for where the words come from that it shows.

What words there are never decides what runs next. So it is enough to follow the words of some sources at a time: these
are red. They come either from fixed sources, defaults and binds, or from the bindings of one move, which is chosen
among all. All other moves bind no name, so that nothing red is covered.

What is shown at last was copied from one place to the next. So where a move is chosen, only one of the places that
hold its red word is followed from each step to the next one, each in turn.
"""

from bindspan.courses import Course
from bindspan.programs import Program
from bindspan.scripts import ENDINGS
from bindspan.settings import OTHER_CODE, OWN_CODE, allowed, level_above, level_below, openings, setting_of

# What stands for a red word and for any other one.
RED = "red"
OTHER = "other"


class Tracer:
    """The rules for one module.

    A scene is the contents of all slots, what is known of the chosen move, which names are red in the environment
    around moves, and the depth that is left. What is known of the chosen move is None if none is chosen so far, else
    a pair: the name that is red, and whether the move has not ended. A rest is the frames of the course, its code,
    and which names are red in the environment around the move.

    A goal is a tuple of "look" or "ran", a tag or a name, and a source. With fixed sources, the source in the goals
    is the label.
    """

    def __init__(self, module, level, sources=None, label=None):
        fixed = [] if sources is None else sources
        self.used = module
        self.program = Program(module, lambda word, source: RED if source in fixed else OTHER)
        self.names = [module.bound.index(name) for name in module.idents("name")]
        self.chooses = sources is None
        self.label = label
        self.level = level
        self.plain = openings(module, False)
        self.choices = _choices(module) if self.chooses else []

    def first(self):
        """The scene at the beginning."""
        return (tuple([None for _ in self.program.slots]), None, self._marks(self.program.defaults), self.level)

    def allows(self, scene):
        """Whether moves may be made in the scene."""
        return allowed(scene[3])

    def hopeless(self, scene):
        """Whether nothing red is left for good."""
        slots, choice, around, _ = scene
        return choice is not None and not _has_red((slots, around))

    def starts(self, scene):
        """What the moves in the scene lead to."""
        slots, choice, around, level = scene
        rows = []
        for opening, setting, code, chosen in self._ways(choice, around):
            course = Course(self.program, list(slots), code, [])
            course.begin(opening[0], opening[1], setting)
            rows.extend(self._rows(opening, course, chosen, around, level))
        return rows

    def resumes(self, rest, scene):
        """What the ends of the callback lead to."""
        frames, code, outer = rest
        slots, choice, _, level = scene
        rows = []
        for ending in ENDINGS:
            course = Course(self.program, list(slots), code, [], frames)
            course.resume(ending, code)
            rows.extend(self._rows(ending, course, choice, outer, level_above(level)))
        return rows

    def _ways(self, choice, around):
        """All ways to begin a move: the opening, the setting, the code, and what is then known of the chosen move."""
        rows = []
        for opening in self.plain:
            rows.append((opening, setting_of(self.used, opening[2][0], around), OTHER_CODE, choice))
        return rows if choice is not None else rows + self.choices

    def _rows(self, first, course, choice, outer, level):
        """The goals that were met, the rest and the scene, after a course has come as far as it could.

        There is one row for each red place that can be followed. Only the first one tells the goals.
        """
        goals = self._goals(course, choice)
        slots = tuple(course.slots)
        if course.waiting is None:
            known = (choice[0], False) if course.code == OWN_CODE else choice
            return [
                (first, goals, None, (row, known, around, level)) for row, around in self._followed((slots, outer))
            ]
        whole = (slots, tuple(course.frames), outer, self._marks(course.waiting[1]))
        return [
            (first, goals, (frames, course.code, around), (row, choice, inner, level_below(level)))
            for row, frames, around, inner in self._followed(whole)
        ]

    def _followed(self, whole):
        """The same with just one of its red places, for each of them, where only one is followed."""
        return _singles(whole) if self.chooses and _has_red(whole) else [whole]

    def _goals(self, course, choice):
        """The goals that were met, each once."""
        source = self._source(course.code, choice)
        goals = [("look", event[1], source) for event in course.events if event[2] == RED]
        if course.waiting is not None:
            code, env = course.waiting
            seen = ("caller", choice[0], "own") if code == OWN_CODE else source
            goals.extend([("ran", self.program.bound[at], seen) for at in self.names if env[at] == RED])
        return tuple(sorted(set(goals)))

    def _source(self, code, choice):
        """The source of what is red while a move with this code goes on."""
        if choice is None:
            return self.label
        name, lasts = choice
        if code == OWN_CODE:
            return ("caller", name, "now")
        return ("caller", name, "outer" if lasts else "ended")

    def _marks(self, env):
        """What the names have in an environment."""
        return tuple([env[at] for at in self.names])


def _choices(module):
    """All ways to begin the chosen move: the opening, the setting, the code, and what is then known of the move."""
    rows = []
    names = module.idents("name")
    for opening in openings(module, True):
        for name in names:
            marks = [RED if one == name else OTHER for one in names]
            rows.append((opening, setting_of(module, opening[2][0], marks), OWN_CODE, (name, True)))
    return rows


def _has_red(value):
    """Whether a tuple has something red, at any depth."""
    if isinstance(value, tuple):
        return any([_has_red(item) for item in value])
    return value == RED


def _cleared(value):
    """The same without anything red, at any depth."""
    if isinstance(value, tuple):
        return tuple([_cleared(item) for item in value])
    return OTHER if value == RED else value


def _singles(value):
    """For each red place in a tuple, at any depth, the same with nothing red but this place."""
    if not isinstance(value, tuple):
        return [value] if value == RED else []
    rows = []
    for at, item in enumerate(value):
        for one in _singles(item):
            rows.append((*_cleared(value[:at]), one, *_cleared(value[at + 1:])))
    return rows
