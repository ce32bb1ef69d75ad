"""Writing the canonical text of parts, and reading parts from a text."""

from bindspan.errors import BadLine, TooDeep, Unclosed
from bindspan.forms import DIVIDERS, MOST_BLOCKS, PARTS, STATEMENTS, fit, roles_of
from bindspan.lines import laid_out
from bindspan.trees import in_order


def write(parts):
    """The canonical text of parts that check accepts."""
    return "\n".join([line[0] for line in laid_out(in_order(parts))])


def parse(text):
    """The parts of a text, and the tuple of the lines at which they and their statements begin."""
    reader = Reader()
    for number, line in enumerate(text.split("\n"), start=1):
        words = [word for word in line.split(" ") if word]
        if words and not words[0].startswith("#"):
            reader.take_line(number, words)
    if reader.begun:
        raise Unclosed(reader.begun[-1].line)
    return (tuple(reader.parts), tuple(reader.lines))


class Begun:
    """A function or block whose first line was read, and whose end was not."""

    def __init__(self, line, head):
        self.line = line
        self.head = head
        self.groups = [[]]

    def divide(self, word):
        """Begins the second rows. False if this word cannot begin them here."""
        if DIVIDERS.get(self.head[0]) != word or len(self.groups) == 2:
            return False
        self.groups.append([])
        return True

    def whole(self):
        """The part or statement with the rows that were read."""
        groups = [tuple(rows) for rows in self.groups]
        if self.head[0] in DIVIDERS and len(groups) == 1:
            groups.append(())
        return (*self.head, *groups)


class Reader:
    """What was read of a text so far."""

    def __init__(self):
        self.parts = []
        self.lines = []
        self.begun = []

    def take_line(self, number, words):
        """Reads one line that has words and is no comment."""
        if words == ["end"]:
            self._end(number)
        elif words == ["else"] or words == ["after"]:
            if not self.begun or not self.begun[-1].divide(words[0]):
                raise BadLine(number)
        else:
            self._begin(number, words)

    def _begin(self, number, words):
        """Reads the first line of a part or statement."""
        head = _read_head(words)
        if head is None or (head[0] in PARTS) == bool(self.begun):
            raise BadLine(number)
        # The innermost function is begun, too, and is not a block.
        if len(self.begun) - 1 > MOST_BLOCKS:
            raise TooDeep(number)
        self.lines.append(number)
        if "rows" in roles_of(head[0]):
            self.begun.append(Begun(number, head))
        else:
            self._put(head)

    def _end(self, number):
        """Reads the end of the innermost function or block."""
        if not self.begun:
            raise BadLine(number)
        done = self.begun.pop()
        self._put(done.whole())

    def _put(self, node):
        """Puts a whole part or statement where it belongs."""
        if self.begun:
            self.begun[-1].groups[-1].append(node)
        else:
            self.parts.append(node)


def _read_head(words):
    """The part or statement that the words begin, without its rows; None if they have none of the forms."""
    head = _read_statement(words) if words[0] in STATEMENTS else _read_part(words)
    if head is None or not fit(_line_roles(head[0]), head[1:], 0):
        return None
    return head


def _line_roles(first):
    """The roles of the items that stand in the first line of a part or statement."""
    return [role for role in roles_of(first) if role != "rows"]


def _read_part(words):
    """The words in the order of the tuple of a part, whatever they are; None if they are too few or too many."""
    if len(words) == 4 and words[0] in ("name", "flag") and words[2] == "=":
        return (words[0], words[1], words[3])
    if len(words) == 3 and words[1] in ("slot", "func"):
        return (words[1], words[2], words[0])
    return None


def _read_statement(words):
    """The words in the order of the tuple of a statement, whatever they are and however many."""
    roles = _line_roles(words[0])
    many = len(roles)
    if "worth" in roles:
        return (*words[:many], _read_worth(words[many:]))
    if "captured" in roles:
        return (*words[:many], _read_captured(words[many:]))
    return tuple(words)


def _read_worth(words):
    """What a bind gives, from the words behind its identifier; None if they have neither of the forms."""
    if len(words) == 2 and words[0] == "=":
        return ("word", words[1])
    if len(words) == 3 and words[:2] == ["=", "of"]:
        return ("of", words[2])
    return None


def _read_captured(words):
    """The with list, from the words behind the other identifiers; None if they do not have the form."""
    if not words:
        return ()
    if words[0] == "with" and len(words) > 1:
        return tuple(words[1:])
    return None
