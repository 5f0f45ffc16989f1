"""Items are read from texts."""

from tonguetower.errors import BadText
from tonguetower.heads import heads_of
from tonguetower.itemwords import ItemWords
from tonguetower.tongues import tongue_names, tongue_of
from tonguetower.words import is_name, is_sign, number_of

BETWEEN = {"tongue": "on", "part": "in", "face": "in"}


def all_names(words):
    """Whether all of some words are names."""
    return all([is_name(word) for word in words])


def params_of(tower):
    """How many parameters the functions of a tower's parts and faces have."""
    return {f: len(head[1]) for f, head in heads_of(tower).items()}


def read_place(ahead, row):
    """What the first row of an item tells: (tongue, part or face, its name, the tongue's name), or None."""
    words = row.split(" ")
    if len(words) != 4 or words[0] not in BETWEEN or words[2] != BETWEEN[words[0]]:
        return None
    if not is_name(words[1]) or words[3] not in tongue_names(ahead):
        return None
    return (words[0], words[1], words[3])


def read_kind(row):
    """What the row of a kind tells, or None."""
    words = row.split(" ")
    if len(words) != 4 or words[0] != "kind" or words[2] != "is" or not all_names([words[1], words[3]]):
        return None
    return (words[1], words[3])


def read_fault(row):
    """What the row of a fault tells, or None."""
    words = row.split(" ")
    return words[1] if len(words) == 2 and words[0] == "fault" and is_name(words[1]) else None


def read_tells(row):
    """What the row of tells tells, or None."""
    words = row.split(" ")
    return tuple(words[1:]) if words[0] == "tells" and all_names(words[1:]) else None


def read_form_item(word):
    """The item of a form that a word tells, or None."""
    if word == "#":
        return ("lit",)
    if word.startswith("'"):
        return ("sign", word[1:]) if is_sign(word[1:]) else None
    if word.startswith("@"):
        return ("name", word[1:]) if is_name(word[1:]) else None
    kind, colon, figures = word.partition(":")
    opens = [number_of(text) for text in figures.split(",")] if colon else []
    return ("term", kind, tuple(opens)) if is_name(kind) and None not in opens else None


def read_form(row):
    """What the row of a form tells: (head, items, kind), or None."""
    words = row.split(" ")
    if len(words) < 4 or words[0] != "form" or words[-2] != "to":
        return None
    items = [read_form_item(word) for word in words[2:-2]]
    if not is_sign(words[1]) or None in items or not is_name(words[-1]):
        return None
    return (words[1], tuple(items), words[-1])


def read_means(reading, row):
    """The meaning that a row tells, or None."""
    words = row.split(" ")
    return reading.read(words[1:]) if words[0] == "means" else None


def read_head(words):
    """What the words of a head tell: (name, all words between this one and the kind, kind), or None."""
    if len(words) < 4 or words[0] != "def" or words[-2] != "to":
        return None
    return (words[1], words[2:-2], words[-1]) if all_names(words[1:]) else None


def read_face_head(row):
    """The head of a face that a row tells, or None."""
    told = read_head(row.split(" "))
    return (told[0], tuple(told[1]), told[2]) if told is not None else None


def read_function(reading, row):
    """The function of a part that a row tells, or None."""
    words = row.split(" ")
    # No word ahead of a body can be this sign, though one in it may.
    if "=" not in words:
        return None
    told = read_head(words[: words.index("=")])
    body = reading.read(words[words.index("=") + 1 :])
    if told is None or len(told[1]) % 2 == 1 or body is None:
        return None
    return (told[0], tuple(zip(told[1][::2], told[1][1::2])), told[2], body)


class Rows:
    """The rows of a text, read one behind the other."""

    def __init__(self, text):
        self.rows = text.split("\n")
        self.at = 0

    def is_over(self):
        """Whether no row is left."""
        return self.at == len(self.rows)

    def row(self):
        """The next row, or an empty text where none is left."""
        return "" if self.is_over() else self.rows[self.at]

    def must(self, told):
        """What the next row told, where it told something; else it can't stand there, or it lacks."""
        if told is None:
            raise BadText(self.at)
        self.at += 1
        return told

    def while_told(self, read):
        """What rows tell by a function of a row, as long as they tell something."""
        found = []
        told = read(self.row())
        while told is not None:
            found.append(told)
            self.at += 1
            told = read(self.row())
        return tuple(found)


def read_tongue(ahead, rows, name, below):
    """A tongue, by its rows behind the first one."""
    kinds = rows.while_told(read_kind)
    faults = rows.while_told(read_fault)
    tells = rows.must(read_tells(rows.row()))
    reading = ItemWords(tongue_of(ahead, below), params_of(ahead), True)
    forms = []
    while not rows.is_over():
        form = rows.must(read_form(rows.row()))
        forms.append((*form, rows.must(read_means(reading, rows.row()))))
    return ("tongue", name, below, kinds, faults, tells, tuple(forms))


def read_part(ahead, rows, name, tongue):
    """A part, by its rows behind the first one."""
    params = params_of(ahead)
    reading = ItemWords(tongue_of(ahead, tongue), params, False)
    functions = []
    while not rows.is_over():
        function = rows.must(read_function(reading, rows.row()))
        functions.append(function)
        params[f"{name}.{function[0]}"] = len(function[1])
    return ("part", name, tongue, tuple(functions))


def read_face(rows, name, tongue):
    """A face, by its rows behind the first one."""
    heads = []
    while not rows.is_over():
        heads.append(rows.must(read_face_head(rows.row())))
    return ("face", name, tongue, tuple(heads))


def read_item(ahead, text):
    """The item of a text, behind the items ahead; it may be one that isn't let by."""
    rows = Rows(text)
    sort, name, tongue = rows.must(read_place(ahead, rows.row()))
    if sort == "tongue":
        return read_tongue(ahead, rows, name, tongue)
    return read_part(ahead, rows, name, tongue) if sort == "part" else read_face(rows, name, tongue)
