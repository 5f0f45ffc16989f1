"""Reads a term word by word, and tells before each word what may come."""

from tonguetower.filling import Filling, kinds_with
from tonguetower.newnames import NewNames
from tonguetower.words import is_name, number_of


class Level:
    """What a head or a call began: what is due in it, the things that came, the names in sight around it."""

    def __init__(self, word, dues, scope):
        self.word = word
        self.dues = dues
        self.scope = scope
        self.at = 0
        self.things = []
        self.names = []

    def item(self):
        """The item that is due, or None where none is."""
        return self.dues[self.at] if self.at < len(self.dues) else None

    def took(self, thing):
        """Keeps a thing that came, and goes on to the item behind it."""
        self.things.append(thing)
        self.at += 1

    def name_kinds(self):
        """The kinds of the names that are made here, those that are still to come, too."""
        return [item[1] for item in self.dues if item[0] == "name"]

    def inner_scope(self, opens):
        """The names in sight in a term that opens some names, all of them made, each with its kind."""
        kinds = self.name_kinds()
        return {**self.scope, **{self.names[k]: kinds[k] for k in opens}} if opens else self.scope

    def kinds_with_name(self, name, opens):
        """The kinds in sight in a term that opens some names, the next of which is made now, others may be later."""
        kinds = self.name_kinds()
        made = [*self.names, name]
        scope = {**self.scope, **{made[k]: kinds[k] for k in opens if k < len(made)}}
        return kinds_with(list(scope.values()), [kinds[k] for k in opens])


class Reading:
    """A term of a tongue that is read, by names known and the kind due."""

    def __init__(self, tower, tongue, known, kind):
        self.tongue = tongue
        self.filling = Filling(tower, tongue)
        self.levels = [Level("", (("term", kind, ()),), dict(known))]

    def item(self):
        """The item that is due, or None where the term is whole."""
        level = self.levels[-1]
        return level.item()

    def term(self):
        """The whole term."""
        return self.levels[0].things[0]

    def in_sight(self):
        """The names in sight in the term that is due, each with its kind."""
        level = self.levels[-1]
        return level.inner_scope(level.item()[2])

    def starts(self, scope, kind):
        """The heads and calls that may begin a term of a kind, in any order."""
        kinds = kinds_with(list(scope.values()), [])
        words = [*self.filling.forms, *self.filling.calls]
        words = [word for word in words if self.filling.gives(word) == kind]
        return [word for word in words if self.filling.shortest_by(word, kinds) is not None]

    def coming(self):
        """All that may come next, rising."""
        due = self.item()
        if due is None:
            return ()
        if due[0] == "sign":
            return (due[1],)
        if due[0] == "lit":
            return ("#",)
        if due[0] == "name":
            return ("@",)
        scope = self.in_sight()
        names = [name for name in scope if scope[name] == due[1]]
        return tuple(sorted([*self.starts(scope, due[1]), *names]))

    def may_make(self, name):
        """Whether a use may make a name next: a term is left for each term that opens it."""
        level = self.levels[-1]
        if not is_name(name) or name in level.names:
            return False
        opening = [item for item in level.dues if item[0] == "term" and len(level.names) in item[2]]
        rows = [(level.kinds_with_name(name, item[2]), item[1]) for item in opening]
        return all([self.filling.shortest(kinds, kind) is not None for kinds, kind in rows])

    def take(self, word):
        """Reads a word, where it may come; whether it may."""
        due = self.item()
        level = self.levels[-1]
        if due is None:
            return False
        if due[0] == "term":
            return self.take_term(word)
        if due[0] == "sign" and word == due[1]:
            level.at += 1
        elif due[0] == "lit" and number_of(word) is not None:
            level.took(number_of(word))
        elif due[0] == "name" and self.may_make(word):
            level.names.append(word)
            level.took(word)
        else:
            return False
        self.close()
        return True

    def take_term(self, word):
        """Reads the first word of a term, where it may come; whether it may."""
        kind = self.item()[1]
        scope = self.in_sight()
        level = self.levels[-1]
        if word in scope and scope[word] == kind:
            level.took(("name", word))
        elif word in self.starts(scope, kind):
            self.levels.append(Level(word, self.filling.behind(word), scope))
        else:
            return False
        self.close()
        return True

    def close(self):
        """Puts all that is whole in what it stands in."""
        while len(self.levels) > 1 and self.item() is None:
            level = self.levels.pop()
            around = self.levels[-1]
            if level.word in self.filling.forms:
                around.took(("use", self.tongue, level.word, tuple(level.things)))
            else:
                around.took(("call", level.word, tuple(level.things)))

    def shortest_word(self, fresh):
        """A word that may come next, and leads to a whole term by the fewest words; made names are new ones."""
        due = self.item()
        if due[0] == "sign":
            return due[1]
        if due[0] == "lit":
            return "0"
        if due[0] == "name":
            return fresh.told()
        scope = self.in_sight()
        names = [name for name in scope if scope[name] == due[1]]
        if names:
            return names[0]
        kinds = kinds_with(list(scope.values()), [])
        rows = [(self.filling.shortest_by(word, kinds), word) for word in self.starts(scope, due[1])]
        return min(rows)[1]

    def fill(self):
        """The words that make the term whole, as few as may be; they are read, too."""
        names = [name for level in self.levels for name in [*level.scope, *level.names]]
        fresh = NewNames(names)
        words = []
        while self.item() is not None:
            words.append(self.shortest_word(fresh))
            self.take(words[-1])
        return words
