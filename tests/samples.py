"""Modules, wrong values, a maker of random modules, and what tells an error, for the tests."""

import random

from bindspan.errors import BindspanError

M_TEXT = """name x = red
flag lit = off
own func show
  look seen x
end
open slot box
open func put
  bind x = blue
    keep box show with x
  end
end"""

M_PARTS = (
    ("name", "x", "red"),
    ("flag", "lit", "off"),
    ("func", "show", "own", (("look", "seen", "x"),)),
    ("slot", "box", "open"),
    ("func", "put", "open", (("bind", "x", ("word", "blue"), (("keep", "box", "show", ("x",)),)),)),
)

# Every form of part and statement at least once, each block with and without rows.
FULL_TEXT = """name x = red
name y = of
flag lit = on
flag dim = off
own func show
  look with x
  fail
end
open slot box
own slot chest
open func none
end
open func put
  bind x = with
    call show
  end
  bind x = of y
  end
  bind lit = off
  end
  bind lit = of dim
    keep box show
    keep chest show with y lit
  end
  take box
  take box with x
  shift box chest
  shift box chest with dim
  run box
  drop chest
  apart
    drop box
  end
  apart
  end
  when lit
    fail
  else
    look a x
  end
  when lit
  else
    look b x
  end
  when dim
    look c y
  end
  when dim
  end
  held box
    fail
  else
    held chest
    end
  end
  guard
    fail
  after
    drop box
  end
  guard
  after
    drop box
  end
  guard
    drop box
  end
  guard
  end
end"""

FULL_PARTS = (
    ("name", "x", "red"),
    ("name", "y", "of"),
    ("flag", "lit", "on"),
    ("flag", "dim", "off"),
    ("func", "show", "own", (("look", "with", "x"), ("fail",))),
    ("slot", "box", "open"),
    ("slot", "chest", "own"),
    ("func", "none", "open", ()),
    ("func", "put", "open", (
        ("bind", "x", ("word", "with"), (("call", "show"),)),
        ("bind", "x", ("of", "y"), ()),
        ("bind", "lit", ("word", "off"), ()),
        ("bind", "lit", ("of", "dim"), (("keep", "box", "show", ()), ("keep", "chest", "show", ("y", "lit")))),
        ("take", "box", ()),
        ("take", "box", ("x",)),
        ("shift", "box", "chest", ()),
        ("shift", "box", "chest", ("dim",)),
        ("run", "box"),
        ("drop", "chest"),
        ("apart", (("drop", "box"),)),
        ("apart", ()),
        ("when", "lit", (("fail",),), (("look", "a", "x"),)),
        ("when", "lit", (), (("look", "b", "x"),)),
        ("when", "dim", (("look", "c", "y"),), ()),
        ("when", "dim", (), ()),
        ("held", "box", (("fail",),), (("held", "chest", (), ()),)),
        ("guard", (("fail",),), (("drop", "box"),)),
        ("guard", (), (("drop", "box"),)),
        ("guard", (("drop", "box"),), ()),
        ("guard", (), ()),
    )),
)

class Odd:
    """A value that claims to be equal to everything."""

    def __eq__(self, other):
        return True

    def __hash__(self):
        return hash("name")


class Spiteful:
    """A value that cannot be compared, shown, counted or hashed."""

    __hash__ = None

    def __eq__(self, other):
        raise AssertionError("compared")

    def __repr__(self):
        raise AssertionError("shown")

    def __len__(self):
        raise AssertionError("counted")


# Values that fit no place of a part, a statement or a pair.
WRONG = (
    None, 0, 1, -1, 7, True, False, 1.0, 10 ** 5000, b"x", "", " ", "X", "x ", "x-y", "x_", "\u00e9", "\u0661", "x" * 13,
    [], ["x"], [()], {}, {"x": "y"}, {"name"}, (None,), ("X",), ((),), (1, 2, 3), ("name",), ("open", "x"),
    object(), Odd(), Spiteful(), len, int,
)

KEPT = (
    "name flag slot func open own look bind call keep take shift run drop apart when held fail guard else after end "
    "with of on off"
).split()


def refused(action, *values):
    """The error that a call raises, with its fields; None if it raises none."""
    try:
        action(*values)
    except BindspanError as error:
        return (type(error), *vars(error).values())
    return None


def nested(blocks, inner=(("fail",),), kind="apart"):
    """Rows in which the rows inner lie inside so many blocks."""
    rows = inner
    for _ in range(blocks):
        rows = ((kind, rows),) if kind == "apart" else ((kind, rows, ()),)
    return rows


def nested_lines(blocks, inner="fail"):
    """The lines of a function in which a line lies inside so many blocks."""
    return ["own func f", *["apart"] * blocks, inner, *["end"] * blocks, "end"]


class Maker:
    """Makes modules that check accepts, together with their canonical lines, keepings and first lines."""

    def __init__(self, seed):
        self.dice = random.Random(seed)
        self.lines = []
        self.begun = []
        self.kept = []
        self.declared = self._declare()
        self.bound = [ident for kind, ident in self.declared if kind in ("name", "flag")]
        self.parts = tuple([self._part(place) for place in range(len(self.declared))])
        self.text = "\n".join(self.lines)

    def _declare(self):
        kinds = ["name", "func", "func", "slot", "slot", "flag"]
        kinds += self.dice.choices(["name", "flag", "slot", "func"], k=self.dice.randrange(4))
        self.dice.shuffle(kinds)
        idents = self.dice.sample(["a", "b", "c1", "dd", "e0", "f", "gg", "h", "seen", "x", "y", "z9", "nameless"], len(kinds))
        return list(zip(kinds, idents))

    def _of(self, *kinds, below=None):
        """The identifiers of these kinds, those of them that are declared above a place."""
        last = len(self.declared) if below is None else below
        return [ident for kind, ident in self.declared[:last] if kind in kinds]

    def _place(self, ident):
        return [row[1] for row in self.declared].index(ident)

    def _say(self, level, text, begins=True):
        self.lines.append("  " * level + text)
        if begins:
            self.begun.append(len(self.lines))

    def _part(self, place):
        kind, ident = self.declared[place]
        if kind in ("name", "flag"):
            worth = self.dice.choice(["red", "0", "of", "on"] if kind == "name" else ["on", "off"])
            self._say(0, f"{kind} {ident} = {worth}")
            return (kind, ident, worth)
        reach = self.dice.choice(["open", "own"])
        self._say(0, f"{reach} {kind} {ident}")
        if kind == "slot":
            return (kind, ident, reach)
        rows = self._rows(place, 1)
        self._say(0, "end", False)
        return (kind, ident, reach, rows)

    def _rows(self, place, level):
        many = self.dice.randrange(5 if level < 3 else 3)
        rows = [self._statement(place, level) for _ in range(many)]
        return tuple([row for row in rows if row is not None])

    def _statement(self, place, level):
        simple = ["look", "call", "keep", "keep", "take", "shift", "run", "drop", "fail"]
        blocks = ["bind", "bind", "apart", "when", "held", "guard"]
        verb = self.dice.choice(simple + blocks if level <= 9 else simple)
        if verb in blocks and level == 9 and self.dice.randrange(2):
            verb = "fail"
        return getattr(self, "_make_" + verb)(place, level)

    def _pick(self, *kinds, below=None):
        found = self._of(*kinds, below=below)
        return self.dice.choice(found) if found else None

    def _with(self):
        captured = self.dice.sample(self.bound, self.dice.randrange(len(self.bound) + 1))
        shown = [ident for ident in self.bound if ident in captured]
        return tuple(captured), (" with " + " ".join(shown) if shown else ""), tuple(shown)

    def _make_look(self, place, level):
        tag, name = self.dice.choice(["t", "of", "9", "seen"]), self._pick("name")
        self._say(level, f"look {tag} {name}")
        return ("look", tag, name)

    def _make_call(self, place, level):
        func = self._pick("func", below=place)
        if func is not None:
            self._say(level, f"call {func}")
            return ("call", func)

    def _keeping(self, level, idents, filled):
        captured, text, shown = self._with()
        self._say(level, " ".join(idents) + text)
        self.kept.append((len(self.lines), idents[0], filled, shown))
        return (*idents, captured)

    def _make_keep(self, place, level):
        slot = self._pick("slot")
        func = self._pick("func", below=self._place(slot))
        if func is not None:
            return self._keeping(level, ("keep", slot, func), slot)

    def _make_take(self, place, level):
        slot = self._pick("slot")
        return self._keeping(level, ("take", slot), slot)

    def _make_shift(self, place, level):
        second = self._pick("slot")
        first = self._pick("slot", below=self._place(second))
        if first is not None:
            return self._keeping(level, ("shift", first, second), second)

    def _make_run(self, place, level):
        slot = self._pick("slot", below=place)
        if slot is not None:
            self._say(level, f"run {slot}")
            return ("run", slot)

    def _make_drop(self, place, level):
        slot = self._pick("slot")
        self._say(level, f"drop {slot}")
        return ("drop", slot)

    def _make_fail(self, place, level):
        self._say(level, "fail")
        return ("fail",)

    def _make_bind(self, place, level):
        kind = self.dice.choice(["name", "flag"])
        ident = self._pick(kind)
        worth = ("of", self._pick(kind))
        if self.dice.randrange(2):
            worth = ("word", self.dice.choice(["w", "of", "1", "off"] if kind == "name" else ["on", "off"]))
        self._say(level, f"bind {ident} = " + (worth[1] if worth[0] == "word" else f"of {worth[1]}"))
        rows = self._inner(place, level)
        self._say(level, "end", False)
        return ("bind", ident, worth, rows)

    def _inner(self, place, level):
        return self._rows(place, level + 1) if level < 9 else ()

    def _make_apart(self, place, level):
        self._say(level, "apart")
        rows = self._inner(place, level)
        self._say(level, "end", False)
        return ("apart", rows)

    def _two(self, place, level, head, divider):
        self._say(level, " ".join(head))
        rows = self._inner(place, level)
        before = len(self.lines)
        self._say(level, divider, False)
        rows2 = self._inner(place, level)
        if not rows2:
            del self.lines[before]
        self._say(level, "end", False)
        return (*head, rows, rows2)

    def _make_when(self, place, level):
        return self._two(place, level, ("when", self._pick("flag")), "else")

    def _make_held(self, place, level):
        return self._two(place, level, ("held", self._pick("slot")), "else")

    def _make_guard(self, place, level):
        return self._two(place, level, ("guard",), "after")


def roughened(text, seed):
    """The text with comments, blank lines, other spaces, and dividers ahead of nothing; and for each line of text
    the number of its line in the result."""
    dice = random.Random(seed)
    lines, numbers, stack = [], [], []
    for line in text.split("\n"):
        words = line.split()
        if words[0] in ("bind", "apart", "when", "held", "guard") or words[1:2] == ["func"]:
            stack.append({"when": "else", "held": "else", "guard": "after"}.get(words[0]))
        elif words[0] in ("else", "after"):
            stack[-1] = None
        elif words[0] == "end":
            divider = stack.pop()
            if divider and dice.randrange(2):
                lines.append(" " * dice.randrange(3) + divider + " ")
        while dice.randrange(3) == 0:
            lines.append(dice.choice(["", "   ", "# end", "  #", "#x y", " ## name"]))
        gaps = [" " * (1 + dice.randrange(2)) for _ in words]
        lines.append(" " * dice.randrange(4) + "".join(word + gap for word, gap in zip(words, gaps)).rstrip(" "))
        numbers.append(len(lines))
        if dice.randrange(4) == 0:
            lines[-1] += "  "
    return "\n".join(lines), numbers
