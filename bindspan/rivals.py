"""Two modules that are used by the same callers, as rules of a search for what parts them.

What words there are never decides what runs next. So it is enough to follow one word at a time, or a few: these are
red. For each place that holds a word, all that is known is whether the word is red. Two modules are parted if they
show something else, or if one of them shows a red word where the other one shows one that is not red. The red words
are either fixed, or they are one word, or the callback, of one move, which is chosen among all.
"""

from bindspan.courses import Course
from bindspan.programs import Program
from bindspan.scripts import ENDINGS
from bindspan.settings import OTHER_CODE, OWN_CODE, allowed, level_above, level_below, openings, setting_of

PARTED = "parted"


class Rivals:
    """The rules for two modules with the same interface.

    A scene is the contents of all slots, whether there is a red word or callback, and the depth that is left.
    """

    def __init__(self, modules, level, reds=None):
        fixed = [] if reds is None else reds
        self.programs = [Program(module, lambda word, source: int(word in fixed)) for module in modules]
        self.chooses = reds is None
        self.level = level
        self.plain = _plain_ways(modules[0])
        self.choices = _choices(modules[0])

    def first(self):
        """The scene at the beginning."""
        slots = tuple([tuple([None for _ in program.slots]) for program in self.programs])
        return (slots, not self.chooses, self.level)

    def allows(self, scene):
        """Whether moves may be made in the scene."""
        return allowed(scene[2])

    def hopeless(self, scene):
        """Whether nothing red is left for good."""
        slots, chosen, _ = scene
        return self.chooses and chosen and not any([_has_red(content) for row in slots for content in row])

    def starts(self, scene):
        """What the moves in the scene lead to."""
        slots, chosen, level = scene
        rows = []
        for opening, setting, code, choice in self.plain if chosen else self.plain + self.choices:
            courses = []
            for program, row in zip(self.programs, slots):
                course = Course(program, list(row), code, [])
                course.begin(opening[0], opening[1], setting)
                courses.append(course)
            rows.append((opening, *_outcome(courses, chosen or choice, level)))
        return rows

    def resumes(self, rest, scene):
        """What the ends of the callback lead to."""
        frames, code = rest
        slots, chosen, level = scene
        rows = []
        for ending in ENDINGS:
            courses = []
            for program, row, left in zip(self.programs, slots, frames):
                course = Course(program, list(row), code, [], left)
                course.resume(ending, code)
                courses.append(course)
            rows.append((ending, *_outcome(courses, chosen, level_above(level))))
        return rows


def _plain_ways(module):
    """All ways to begin a move that choose nothing: the opening, the setting, the code, and False."""
    none = [0 for _ in module.idents("name")]
    return [(row, setting_of(module, row[2][0], none), OTHER_CODE, False) for row in openings(module, True)]


def _choices(module):
    """All ways to begin a move that choose one of its words or its callback as red."""
    rows = []
    names = module.idents("name")
    for opening, setting, _, _ in _plain_ways(module):
        rows.append((opening, setting, OWN_CODE, True))
        for red in names:
            marks = [int(name == red) for name in names]
            rows.append((opening, setting_of(module, opening[2][0], marks), OTHER_CODE, True))
    return rows


def _has_red(content):
    """Whether a content of a slot has something red."""
    return content is not None and (content[0] == OWN_CODE or 1 in content[1])


def _outcome(courses, chosen, level):
    """The goals that were met, the rest and the scene, after two courses have come as far as they could."""
    first, second = courses
    if first.events != second.events or first.waiting != second.waiting or first.failed != second.failed:
        return ((PARTED,), None, None)
    slots = tuple([tuple(course.slots) for course in courses])
    if first.waiting is None:
        return ((), None, (slots, chosen, level))
    frames = tuple([tuple(course.frames) for course in courses])
    return ((), (frames, first.code), (slots, chosen, level_below(level)))
