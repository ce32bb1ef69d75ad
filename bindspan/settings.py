"""What all callers can begin a move with, and the scripts that tell it in words."""

from bindspan.trees import words_in

# The codes of callers' callbacks where only one of them is followed.
OTHER_CODE = -1
OWN_CODE = -2


def openings(module, binds):
    """All moves, without their reactions. In place of bindings they have a pair: the words of the flags in the order
    of declaration, and whether all names or none are bound to new words."""
    flags = switches(len(module.idents("flag")))
    return [(kind, target, (words, binds)) for kind, target in module.targets for words in flags]


def switches(many):
    """All ways to set so many flags, each as a tuple of words."""
    rows = [()]
    for _ in range(many):
        rows = [(*row, word) for row in rows for word in ("on", "off")]
    return rows


def setting_of(module, flags, marks):
    """The environment with these values for the flags and for the names, each in the order of declaration."""
    names = module.idents("name")
    switched = module.idents("flag")
    values = []
    for ident in module.bound:
        values.append(marks[names.index(ident)] if ident in names else flags[switched.index(ident)])
    return tuple(values)


def allowed(level):
    """Whether a script may have a move if this depth is left for it; None is no bound."""
    return level is None or level >= 0


def level_below(level):
    """The depth that is left for the scripts in the reactions of a script."""
    return None if level is None else level - 1


def level_above(level):
    """The depth that is left for a script if this one is left for those in its reactions."""
    return None if level is None else level + 1


class Wording:
    """Puts new words into scripts: words that are all different, and that none of the modules has."""

    def __init__(self, modules):
        self.used = modules[0]
        self.taken = [word for module in modules for word in words_in(module.parts)]
        self.tried = 0

    def worded(self, moves):
        """The script of moves that have such pairs in place of bindings."""
        return tuple([self._move(move) for move in moves])

    def _move(self, move):
        """The move with its bindings."""
        kind, target, (flags, binds), reactions = move
        bindings = {ident: self._new_word() for ident in self.used.idents("name")} if binds else {}
        for ident, word in zip(self.used.idents("flag"), flags):
            bindings[ident] = word
        return (kind, target, bindings, tuple([(self.worded(inner), ending) for inner, ending in reactions]))

    def _new_word(self):
        """A word that nothing has yet."""
        self.tried += 1
        while f"w{self.tried}" in self.taken:
            self.tried += 1
        return f"w{self.tried}"
