"""The words of terms and meanings are read by their sorts alone, one behind the other."""

from tonguetower.words import is_name, number_of

TERM = ("term",)
LIT = ("lit",)
MANY = ("many",)
BEGINS = {"$": "hole", "@": "own", "#": "lit", "~": "turn"}


class Started:
    """What a word began: what it is so far, what is still due in it, and the things that came."""

    def __init__(self, begin, dues):
        self.begin = begin
        self.dues = list(dues[::-1])
        self.things = []

    def whole(self):
        """What it is, nothing being due any more."""
        things = tuple(self.things)
        if self.begin[0] == "choose":
            return ("choose", things[0], things[1:])
        return ("times", *things) if self.begin[0] == "times" else (*self.begin, things)


def numbered(word):
    """What a mark and figures tell of a use or a times, or None."""
    number = number_of(word[1:])
    if word[:1] not in BEGINS or number is None:
        return None
    return (BEGINS[word[:1]], number)


class ItemWords:
    """Reads words by the forms of a tongue, and by how many parameters functions have."""

    def __init__(self, tongue, params, is_meaning):
        self.tongue = tongue[1]
        self.forms = {form[0]: form[1] for form in tongue[6]}
        self.params = params
        self.is_meaning = is_meaning
        self.levels = []

    def read(self, words):
        """The term or the meaning that words tell, or None where they tell none."""
        self.levels = [Started(("root",), (TERM,))]
        for word in words:
            level = self.levels[-1]
            if not level.dues or not self.take(level.dues.pop(), word):
                return None
            self.close()
        root = self.levels[-1]
        return None if root.dues else root.things[0]

    def take(self, due, word):
        """Reads a word where something is due; whether it can stand there."""
        if due[0] == "sign":
            return word == due[1]
        if due[0] == "many":
            return self.take_many(word)
        if due[0] == "name":
            return self.took(self.name_told(word))
        if due[0] == "lit":
            return self.take_number(word)
        return self.take_term(word)

    def took(self, thing):
        """Keeps a thing that a word told, where it told one; whether it did."""
        level = self.levels[-1]
        if thing is not None:
            level.things.append(thing)
        return thing is not None

    def start(self, begin, dues):
        """Keeps what a word began; it could stand there."""
        self.levels.append(Started(begin, dues))
        return True

    def close(self):
        """Puts all that is whole in what it stands in."""
        while len(self.levels) > 1 and not self.levels[-1].dues:
            level = self.levels.pop()
            self.took(level.whole())

    def marked(self, word, sorts):
        """What a mark and figures tell in a meaning, where it is one of some sorts, or None."""
        told = numbered(word)
        return told if self.is_meaning and told is not None and told[0] in sorts else None

    def name_told(self, word):
        """The name that a word tells, or None."""
        return word if is_name(word) else self.marked(word, ("own",))

    def take_many(self, word):
        """Reads of how many a choose chooses."""
        number = number_of(word)
        if number is None:
            return False
        level = self.levels[-1]
        level.dues.extend([TERM] * number)
        return True

    def take_number(self, word):
        """Reads a number, or in a meaning the first word of what stands for one."""
        if self.is_meaning and word.startswith("!") and word[1:] in self.params:
            return self.start(("made", word[1:]), [LIT] * self.params[word[1:]])
        number = number_of(word)
        return self.took(self.marked(word, ("lit", "turn")) if number is None else number)

    def take_term(self, word):
        """Reads the first word of a term, or of a meaning."""
        if word in self.forms:
            return self.start(("use", self.tongue, word), self.forms[word])
        if word in self.params:
            return self.start(("call", word), [TERM] * self.params[word])
        name = self.name_told(word)
        if name is not None:
            return self.took(("name", name))
        return self.is_meaning and self.take_meaning(word)

    def take_meaning(self, word):
        """Reads the first word of what meanings alone are made of."""
        if word == ":choose":
            return self.start(("choose",), (LIT, MANY))
        if word == ":times":
            return self.start(("times",), (LIT, TERM, TERM))
        return self.took(("rest",) if word == ":rest" else self.marked(word, ("hole",)))
