"""Sets of pairs of the number of a keeping and an identifier."""

from bindspan.errors import BadPair, TooMany
from bindspan.words import DIGITS, is_ident

MOST_DIGITS = 60
NUMBER_LIMIT = 10 ** 60


class Captures:
    """A set of pairs that never changes."""

    def __init__(self, pairs=()):
        self.pairs = _own_pairs(pairs)

    @classmethod
    def of(cls, *pairs):
        """The captures with these pairs."""
        return cls(pairs)

    @classmethod
    def read(cls, text):
        """The captures with this text."""
        if text == "":
            return cls()
        return cls([_read_pair(word) for word in text.split(" ")])

    def __str__(self):
        return " ".join([f"{number}:{ident}" for number, ident in self.pairs])

    def __or__(self, other):
        return Captures(sorted(set(self.pairs) | set(_pairs_of(other))))

    def __ror__(self, other):
        return Captures(sorted(set(_pairs_of(other)) | set(self.pairs)))

    def __and__(self, other):
        return Captures(sorted(set(self.pairs) & set(_pairs_of(other))))

    def __rand__(self, other):
        return Captures(sorted(set(_pairs_of(other)) & set(self.pairs)))

    def __sub__(self, other):
        return Captures(sorted(set(self.pairs) - set(_pairs_of(other))))

    def __rsub__(self, other):
        return Captures(sorted(set(_pairs_of(other)) - set(self.pairs)))

    def __xor__(self, other):
        return Captures(sorted(set(self.pairs) ^ set(_pairs_of(other))))

    def __rxor__(self, other):
        return Captures(sorted(set(_pairs_of(other)) ^ set(self.pairs)))

    def within(self, other):
        """Whether each pair is also a pair of the other captures."""
        return len(set(self.pairs) - set(other.pairs)) == 0

    def __eq__(self, other):
        return isinstance(other, Captures) and self.pairs == other.pairs

    def __contains__(self, x):
        return x in self.pairs

    def __len__(self):
        return len(self.pairs)

    def __bool__(self):
        return bool(self.pairs)

    def __iter__(self):
        return iter(self.pairs)

    def at(self, number):
        """The identifiers that are captured by the keeping with this number, in ascending order."""
        return tuple([pair[1] for pair in self.pairs if pair[0] == number])


def candidates(free, most=8):
    """Every subset of the free pairs, the smaller ones first, those of one size in ascending order."""
    pairs = free.pairs
    if len(pairs) > most:
        raise TooMany(len(pairs))
    rows = [()]
    while rows:
        for row in rows:
            yield Captures([pairs[at] for at in row])
        rows = _longer(rows, len(pairs))


def _longer(rows, many):
    """The ascending rows of indexes below many that have one index more than these, in ascending order."""
    return [(*row, at) for row in rows for at in range(_beyond(row), many)]


def _beyond(row):
    """The smallest index that may follow the row."""
    return row[-1] + 1 if row else 0


def _own_pairs(pairs):
    """The tuple of the pairs, each once and ascending."""
    for item in pairs:
        if not _is_pair(item):
            raise BadPair(item)
    return tuple(sorted(set(pairs)))


def _pairs_of(other):
    """The pairs of an operand: of captures, a list or a tuple."""
    if isinstance(other, Captures):
        return other.pairs
    return _own_pairs(other)


def _is_pair(value):
    """Whether a value of any kind is a pair."""
    if not isinstance(value, tuple) or len(value) != 2:
        return False
    return _is_number(value[0]) and is_ident(value[1])


def _is_number(value):
    """Whether a value of any kind is the number of a pair."""
    if not isinstance(value, int) or isinstance(value, bool):
        return False
    return 0 <= value < NUMBER_LIMIT


def _read_pair(word):
    """The pair that a word of a text tells."""
    digits, _, ident = word.partition(":")
    if not _is_decimal(digits) or not is_ident(ident):
        raise BadPair(word)
    return (int(digits), ident)


def _is_decimal(text):
    """Whether the text is a decimal number without a leading zero that a pair can have."""
    if not 1 <= len(text) <= MOST_DIGITS or not all([sign in DIGITS for sign in text]):
        return False
    return text == "0" or text[0] != "0"
