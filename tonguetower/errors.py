"""The refusals: each keeps what it was made of, as it is, in fields of these names."""


class TowerError(ValueError):
    """What most refusals stand under."""


class NoTongue(TowerError):
    """A tongue isn't let by."""

    def __init__(self, word, head, at):
        self.word = word
        self.head = head
        self.at = at


class NoTerm(TowerError):
    """A term isn't let by."""

    def __init__(self, word, at):
        self.word = word
        self.at = at


class NoPart(TowerError):
    """A part or a face isn't let by."""

    def __init__(self, word, function, at):
        self.word = word
        self.function = function
        self.at = at


class NoText(TowerError):
    """A text can't go on at a word."""

    def __init__(self, at, wants):
        self.at = at
        self.wants = wants


class NoMaking(TowerError):
    """A use can't be laid down."""

    def __init__(self, at, why):
        self.at = at
        self.why = why


class Unmade(TowerError):
    """A function can't be laid down."""

    def __init__(self, f, at, why):
        self.f = f
        self.at = at
        self.why = why


class NoBody(TowerError):
    """A function is of a face alone."""

    def __init__(self, f):
        self.f = f


class TooBig(TowerError):
    """A term comes to too many parts, or too deep ones."""

    def __init__(self, most):
        self.most = most


class TooLong(TowerError):
    """A run takes too many turns."""

    def __init__(self, most):
        self.most = most


class NoUse(TowerError):
    """No use stands there that could be laid down."""

    def __init__(self, at):
        self.at = at


class NoFold(TowerError):
    """A tongue can't be folded."""

    def __init__(self, word, head):
        self.word = word
        self.head = head


class Twice(TowerError):
    """Two made parts have one name."""

    def __init__(self, name):
        self.name = name


class NoName(TowerError):
    """A text is no name."""

    def __init__(self, name):
        self.name = name


class Clash(TowerError):
    """A new name would stand twice, or be bound otherwise."""

    def __init__(self, at):
        self.at = at


class BadText(TowerError):
    """A row of an item's text can't stand there."""

    def __init__(self, row):
        self.row = row


class NoRow(TowerError):
    """A desk is told a row that is none."""


class NoFunction(KeyError):
    """There is no such function."""

    def __init__(self, f):
        self.f = f


class NoItem(LookupError):
    """There is no such item."""

    def __init__(self, name):
        self.name = name


class NotMade(LookupError):
    """A function isn't made."""

    def __init__(self, f):
        self.f = f
