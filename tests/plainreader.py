"""What the document says of items' texts, read plainly by calls: slow, and not of deep terms."""

import re

from tonguetower.tongues import GROUND

NAME = "[a-z]{1,6}"
SIGN = r"(?:[A-Z]{1,6}|[-+*/=<>()\[\],;?])"
FIGURES = "(?:0|[1-9][0-9]{0,2})"


class Bad(Exception):
    """A row can't stand there, or one lacks."""


def whole(pattern, text):
    return re.fullmatch(pattern, text)


class PlainReader:
    def __init__(self, ahead):
        self.ahead = ahead
        self.tongues = {item[1]: item for item in ahead if item[0] == "tongue"}
        self.tongues["ground"] = GROUND
        self.many = {}
        for item in ahead:
            if item[0] != "tongue":
                for one in item[3]:
                    self.many[f"{item[1]}.{one[0]}"] = len(one[1])

    def read(self, text):
        """The item, or the number of the row that can't stand there or lacks."""
        self.rows = text.split("\n")
        self.at = 0
        try:
            return self.item()
        except Bad:
            return self.at

    def row(self, pattern):
        """What the next row's groups are, where it is of a pattern; else it can't stand there."""
        found = whole(pattern, self.rows[self.at]) if self.at < len(self.rows) else None
        if not found:
            raise Bad
        self.at += 1
        return found.groups()

    def is_next(self, pattern):
        return self.at < len(self.rows) and bool(whole(pattern, self.rows[self.at]))

    def item(self):
        word, called, _, tongue = self.row(f"(tongue|part|face) ({NAME}) (on|in) ({NAME})")
        if tongue not in self.tongues or (word == "tongue") != (_ == "on"):
            self.at = 0
            raise Bad
        self.called = called
        self.tongue = self.tongues[tongue]
        self.is_meaning = word == "tongue"
        if word == "tongue":
            return ("tongue", called, tongue, *self.tongue_rows())
        found = []
        while self.at < len(self.rows):
            found.append(self.function() if word == "part" else self.head())
            if word == "part":
                self.many[f"{called}.{found[-1][0]}"] = len(found[-1][1])
        return (word, called, tongue, tuple(found))

    def tongue_rows(self):
        kinds, faults, forms = [], [], []
        kind = f"kind ({NAME}) is ({NAME})"
        while self.is_next(kind):
            kinds.append(self.row(kind))
        while self.is_next(f"fault ({NAME})"):
            faults.append(self.row(f"fault ({NAME})")[0])
        (tells,) = self.row(f"tells((?: {NAME})*)")
        while self.at < len(self.rows):
            item = f"'{SIGN}|#|@{NAME}|{NAME}(?::{FIGURES}(?:,{FIGURES})*)?"
            head, items, to = self.row(f"form ({SIGN})((?: (?:{item}))*) to ({NAME})")
            (words,) = self.row("means (.*)")
            forms.append((head, tuple([self.form_item(one) for one in items.split()]), to, self.term_of(words)))
        return tuple(kinds), tuple(faults), tuple(tells.split()), tuple(forms)

    def form_item(self, word):
        if word[0] == "'":
            return ("sign", word[1:])
        if word == "#":
            return ("lit",)
        if word[0] == "@":
            return ("name", word[1:])
        kind, _, opens = word.partition(":")
        return ("term", kind, tuple([int(one) for one in opens.split(",") if one]))

    def function(self):
        called, params, kind, words = self.row(f"def ({NAME})((?: {NAME} {NAME})*) to ({NAME}) = (.*)")
        words_of = params.split()
        params = tuple([(words_of[k], words_of[k + 1]) for k in range(0, len(words_of), 2)])
        return (called, params, kind, self.term_of(words))

    def head(self):
        called, kinds, kind = self.row(f"def ({NAME})((?: {NAME})*) to ({NAME})")
        return (called, tuple(kinds.split()), kind)

    def term_of(self, words):
        """The term of the words of the row ahead."""
        self.words = words.split(" ")
        try:
            told = self.term()
            if self.words:
                raise Bad
            return told
        except Bad:
            self.at -= 1
            raise

    def word(self, pattern="(.*)"):
        found = whole(pattern, self.words.pop(0)) if self.words else None
        if not found:
            raise Bad
        return found[1]

    def term(self):
        word = self.word()
        forms = {form[0]: form[1] for form in self.tongue[6]}
        if word in forms:
            things = [self.thing(item) for item in forms[word]]
            return ("use", self.tongue[1], word, tuple([thing for thing in things if thing is not None]))
        if word in self.many:
            return ("call", word, tuple([self.term() for _ in range(self.many[word])]))
        if whole(NAME, word):
            return ("name", word)
        if self.is_meaning and whole(f"[@$]{FIGURES}", word):
            return ("hole", int(word[1:])) if word[0] == "$" else ("name", ("own", int(word[1:])))
        if self.is_meaning and word == ":choose":
            number = self.number()
            return ("choose", number, tuple([self.term() for _ in range(int(self.word(f"({FIGURES})")))]))
        if self.is_meaning and word == ":times":
            return ("times", self.number(), self.term(), self.term())
        if self.is_meaning and word == ":rest":
            return ("rest",)
        raise Bad

    def thing(self, item):
        if item[0] == "sign":
            return None if self.word() == item[1] else self.word("never")
        if item[0] == "lit":
            return self.number()
        if item[0] == "term":
            return self.term()
        word = self.word(f"({NAME}|@{FIGURES})" if self.is_meaning else f"({NAME})")
        return ("own", int(word[1:])) if word[0] == "@" else word

    def number(self):
        word = self.word()
        if whole(FIGURES, word):
            return int(word)
        if self.is_meaning and whole(f"[#~]{FIGURES}", word):
            return ("lit" if word[0] == "#" else "turn", int(word[1:]))
        if self.is_meaning and word[:1] == "!" and word[1:] in self.many:
            return ("made", word[1:], tuple([self.number() for _ in range(self.many[word[1:]])]))
        raise Bad
