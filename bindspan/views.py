"""Which bindings the looks of a module, and its callers' callbacks, can show."""

from bindspan.errors import NotSeen
from bindspan.lines import beginnings
from bindspan.scripts import count_moves
from bindspan.searches import Search
from bindspan.settings import Wording
from bindspan.tracers import Tracer
from bindspan.ways import ways_of, within_depth

# What the kinds of sources are called that all words have together.
ANY_KIND = "any"


class Views:
    """What some callers can make a module show, with a smallest script for each row."""

    def __init__(self, module, ways):
        self.used = module
        # For each goal of the searches the moves that meet it.
        self.ways = ways
        self.looks = _rows(ways, "look")
        self.callbacks = _rows(ways, "ran")

    def __contains__(self, x):
        return x in self.looks

    def __len__(self):
        return len((*self.looks, *self.callbacks))

    def look_script(self, tag, source):
        """A smallest script in which a look with this tag shows a word from this source."""
        if (tag, source) not in self.looks:
            raise NotSeen((tag, source))
        return Wording((self.used,)).worded(self.ways[("look", tag, source)])

    def callback_script(self, name, source):
        """A smallest script in which a caller's callback sees a word from this source for this name."""
        if (name, source) not in self.callbacks:
            raise NotSeen((name, source))
        return Wording((self.used,)).worded(self.ways[("ran", name, source)])


def views(module, *, depth=None):
    """The views of the module for all callers whose scripts have at most this depth."""
    ways = within_depth(lambda level: _all_ways(Tracer(module, level)), depth)
    for source in _fixed_sources(module):
        found = within_depth(lambda level: _all_ways(Tracer(module, level, (source,), source)), depth)
        for goal, way in found.items():
            ways[goal] = way
    return Views(module, ways)


def look_script_of_kind(module, tag, kind, depth):
    """A smallest script in which a look with this tag shows a word from a source of this kind, or None."""
    if tag not in [node[1] for _, node, _ in beginnings(module.parts) if node[0] == "look"]:
        return None
    ways = within_depth(lambda level: _cheapest_way(module, tag, kind, level), depth)
    return Wording((module,)).worded(ways[kind]) if ways else None


def _all_ways(tracer):
    """The moves to all that a tracer can find."""
    search = Search(tracer)
    search.go()
    return ways_of(search, list(search.found))


def _cheapest_way(module, tag, kind, level):
    """The moves to a look with this tag, by the kind; nothing if there are none."""
    if kind in ("default", "bind", ANY_KIND):
        sources = [source for source in _fixed_sources(module) if kind in (source[0], ANY_KIND)]
        goals = [("look", tag, kind)] if sources else []
        tracer = Tracer(module, level, sources, kind)
    else:
        goals = [("look", tag, ("caller", name, kind)) for name in module.idents("name")]
        tracer = Tracer(module, level)
    # Without goals, the search would go on to its end for nothing.
    if not goals:
        return {}
    search = Search(tracer)
    search.go(goals)
    ways = sorted(list(ways_of(search, goals).values()), key=count_moves)
    return {kind: ways[0]} if ways else {}


def _fixed_sources(module):
    """The sources of the module that are not bindings of moves."""
    names = module.idents("name")
    sources = [("default", name) for name in names]
    for line, node, _ in beginnings(module.parts):
        if node[0] == "bind" and node[1] in names and node[2][0] == "word":
            sources.append(("bind", line))
    return sources


def _rows(ways, kind):
    """The rows of one kind, ascending."""
    return tuple(sorted([(what, source) for first, what, source in ways if first == kind]))
