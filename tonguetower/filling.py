"""Which kinds have terms, by the kinds of the names in sight, and how few words such a term takes."""

from tonguetower.heads import heads_of
from tonguetower.tongues import tongue_of


def kinds_with(kinds, more):
    """Kinds, rising, each once, and more of them."""
    return tuple(sorted(set([*kinds, *more])))


def opened_kinds(form, opens):
    """The kinds of the names that a term of a form opens."""
    names = [item for item in form[1] if item[0] == "name"]
    return [names[k][1] for k in opens]


class Filling:
    """Tells of a tongue's kinds the words of the shortest terms; names that uses make are taken to be new ones."""

    def __init__(self, tower, tongue):
        self.forms = {form[0]: form for form in tongue_of(tower, tongue)[6]}
        self.calls = {f: head[1:] for f, head in heads_of(tower).items() if head[0] == tongue}
        self.found = {}
        self.filled = {}

    def gives(self, word):
        """The kind of what a head or a call begins."""
        return self.forms[word][2] if word in self.forms else self.calls[word][1]

    def behind(self, word):
        """What is due behind a head or a call, as items of a form."""
        if word in self.forms:
            return self.forms[word][1]
        return tuple([("term", kind, ()) for kind in self.calls[word][0]])

    def terms_due(self, word, kinds):
        """The terms due behind a head or a call: of each the kinds of the names in sight in it, and its kind."""
        if word in self.calls:
            return [(kinds, kind) for kind in self.calls[word][0]]
        form = self.forms[word]
        items = [item for item in form[1] if item[0] == "term"]
        return [(kinds_with(kinds, opened_kinds(form, item[2])), item[1]) for item in items]

    def words_of(self, word, kinds):
        """How many words the shortest term takes that a head or a call begins, or None where there is none."""
        inner = [self.found.get(place) for place in self.terms_due(word, kinds)]
        if None in inner:
            return None
        return 1 + len(self.behind(word)) - len(inner) + sum(inner)

    def reached(self, kinds):
        """All kinds of names that may be in sight together within terms, where some are in sight around them."""
        rows = [kinds]
        at = 0
        while at < len(rows):
            inner = [place for word in self.forms for place in self.terms_due(word, rows[at])]
            for more, _ in inner:
                if more not in rows:
                    rows.append(more)
            at += 1
        return rows

    def shorten(self, rows):
        """Tries all that may begin terms, once; whether a shorter term was found."""
        found = False
        for kinds in rows:
            for word in [*self.forms, *self.calls]:
                many = self.words_of(word, kinds)
                place = (kinds, self.gives(word))
                if many is not None and many < self.found.get(place, many + 1):
                    self.found[place] = many
                    found = True
        return found

    def fill(self, kinds):
        """Finds the shortest terms where names of some kinds are in sight."""
        rows = self.reached(kinds)
        for more in rows:
            for kind in more:
                self.found[(more, kind)] = 1
        found = True
        while found:
            found = self.shorten(rows)
        for more in rows:
            self.filled[more] = True

    def shortest(self, kinds, kind):
        """How many words the shortest term of a kind takes by the kinds of names in sight, or None of none."""
        if kinds not in self.filled:
            self.fill(kinds)
        return self.found.get((kinds, kind))

    def shortest_by(self, word, kinds):
        """How many words the shortest term that a head or a call begins takes, or None of none."""
        if kinds not in self.filled:
            self.fill(kinds)
        return self.words_of(word, kinds)
