"""Runs of modules for scripts, and general runs, whose words are marks."""

from bindspan.scripts import check_script
from bindspan.stages import Stage


class Run:
    """What happened in a run, and what it left."""

    def __init__(self, events, settings, contents):
        self.events = events
        self.settings = settings
        self.contents = contents

    def __len__(self):
        return len(self.events)

    def __getitem__(self, at):
        return self.events[at]

    def __iter__(self):
        return iter(self.events)

    def words(self, tag):
        """The tuple of the words that looks with this tag showed."""
        return tuple([event[2] for event in self.events if event[0] == "look" and event[1] == tag])

    def ending(self, number):
        """How the move with this number ended."""
        return [event[2] for event in self.events if event[0] == "end" and event[1] == number][0]


def run(module, script):
    """The run of the module for the script."""
    return _performed(module, script, False)


def general(module, script):
    """The general run of the module for the script."""
    return _performed(module, script, True)


def fill(events, settings):
    """The events with the words that the settings give in place of the marks."""
    return tuple([_filled(event, settings) for event in events])


def _performed(module, script, marked):
    """The run, or the general run, of the module for the script."""
    check_script(module, script)
    stage = Stage(module)
    _make_moves(stage, script, stage.program.defaults, marked)
    settings = tuple([stage.bindings(setting) for setting in stage.settings])
    contents = {slot: stage.content(slot) for slot in stage.program.slots}
    return Run(tuple(stage.events), settings, contents)


def _make_moves(stage, script, around, marked):
    """Makes the moves of the script in the environment around them."""
    for kind, target, bindings, reactions in script:
        setting = _setting(stage, bindings, around, marked)
        stage.move(kind, target, setting, _reacting(stage, reactions, marked))


def _setting(stage, bindings, around, marked):
    """The setting of the next move."""
    number = len(stage.settings)
    words = []
    for ident, word in zip(stage.program.bound, around):
        if marked and ident in stage.program.names:
            words.append((number, ident))
        else:
            words.append(bindings.get(ident, word))
    return tuple(words)


def _reacting(stage, reactions, marked):
    """What the callers' callbacks do that are run in one move."""
    used = 0

    def react(_, env):
        nonlocal used
        used += 1
        if used > len(reactions):
            return "return"
        script, ending = reactions[used - 1]
        _make_moves(stage, script, env, marked)
        return ending

    return react


def _filled(event, settings):
    """The event with words in place of its marks."""
    if event[0] == "look":
        return ("look", event[1], _word(event[2], settings))
    if event[0] == "ran":
        return ("ran", event[1], tuple([_word(word, settings) for word in event[2]]))
    return event


def _word(word, settings):
    """The word that a word or mark stands for."""
    if isinstance(word, tuple):
        number, name = word
        return settings[number][name]
    return word
