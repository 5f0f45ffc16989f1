"""Towers, terms and beginnings by chance, let by; the same ones for the same seed."""

from tests.samples import REST, call, choose, hole, lit, made, name, own, times, turn, use
from tonguetower.errors import TowerError
from tonguetower.meanings import meaning_parts
from tonguetower.terms import parts
from tonguetower.tongues import GROUND
from tonguetower.towers import look_tower

SIGNS = ["A", "B", "C", "D", "E", "F", "+", ";", "IF"]


class Stuck(Exception):
    """Nothing is left that could stand in a place."""


class Chance:
    def __init__(self, chance, calls=True, makes=True):
        self.chance = chance
        self.calls = calls
        self.makes = makes

    def kinds_of(self, tower, tongue):
        return [kind for kind, _ in self.tongue_of(tower, tongue)[3]]

    def tongue_of(self, tower, tongue):
        return GROUND if tongue == "ground" else [i for i in tower if i[0] == "tongue" and i[1] == tongue][0]

    def heads(self, tower, tongue=None):
        found = []
        for item in tower:
            if item[0] != "tongue" and tongue in (None, item[2]):
                for head in item[3]:
                    kinds = head[1] if item[0] == "face" else tuple(kind for _, kind in head[1])
                    found.append((f"{item[1]}.{head[0]}", kinds, head[2]))
        return found

    # Terms.

    def term(self, tower, tongue, scope, kind, depth):
        forms = [form for form in self.tongue_of(tower, tongue)[6] if form[2] == kind]
        heads = [head for head in self.heads(tower, tongue) if head[2] == kind] if self.calls else []
        names = [x for x in scope if scope[x] == kind]
        if depth <= 0:
            forms = [form for form in forms if not [item for item in form[1] if item[0] == "term"]]
            heads = [head for head in heads if not head[1]]
        some = [("name", x) for x in names] + [("use", form) for form in forms * 2] + [("call", h) for h in heads]
        self.chance.shuffle(some)
        for sort, what in some:
            try:
                if sort == "name":
                    return name(what)
                if sort == "call":
                    return call(what[0], *[self.term(tower, tongue, scope, due, depth - 1) for due in what[1]])
                return self.use_of(tower, tongue, scope, what, depth)
            except Stuck:
                continue
        raise Stuck

    def use_of(self, tower, tongue, scope, form, depth):
        made_names = []
        kinds = []
        things = []
        for item in form[1]:
            if item[0] == "lit":
                things.append(self.chance.choice([0, 1, 2, 3, 5, 9, 998, 999]))
            if item[0] == "name":
                x = self.chance.choice([x for x in "abcxyz" if x not in made_names])
                made_names.append(x)
                kinds.append(item[1])
                things.append(x)
            if item[0] == "term":
                inner = {**scope, **{made_names[k]: kinds[k] for k in item[2]}}
                things.append(self.term(tower, tongue, inner, item[1], depth - 1))
        return use(tongue, form[0], *things)

    # Tongues.

    def tongue(self, tower, called, below):
        beneath = self.tongue_of(tower, below)
        chance = self.chance
        means = {x: chance.choice([k for k, _ in beneath[3]]) for x in ["n", "b", "c"][: chance.randrange(1, 4)]}
        faults = tuple(["bad", "worse", "odd"][: chance.randrange(1, 4)])
        tells = tuple([chance.choice(faults) for _ in beneath[4]])
        heads = chance.sample(SIGNS, chance.randrange(2, 7))
        forms = [self.form(tower, beneath, means, head) for head in heads]
        forms = tuple([form for form in forms if form])
        return ("tongue", called, below, tuple(means.items()), faults, tells, forms)

    def form(self, tower, beneath, means, head):
        for _ in range(20):
            items = self.some_items(list(means))
            kind = self.chance.choice(list(means))
            maker = MeaningChance(self, tower, beneath, means, items)
            try:
                meaning = maker.meaning({}, means[kind], [], self.chance.randrange(1, 6))
            except Stuck:
                continue
            if len(meaning_parts(meaning)) <= 40:
                return (head, items, kind, meaning)
        return None

    def some_items(self, kinds):
        chance = self.chance
        many = {"sign": 2, "lit": 2, "name": 2, "term": 3}
        items = []
        names = 0
        for _ in range(chance.randrange(0, 8)):
            sort = chance.choice(["sign", "lit", "name", "term", "term", "name"])
            if not many[sort]:
                continue
            many[sort] -= 1
            if sort == "sign":
                items.append(("sign", chance.choice([",", "TO", "IF", "+"])))
            if sort == "lit":
                items.append(("lit",))
            if sort == "name":
                items.append(("name", chance.choice(kinds)))
                names += 1
            if sort == "term":
                opens = tuple([k for k in range(names) if chance.random() < 0.6])
                items.append(("term", chance.choice(kinds), opens))
        return tuple(items)

    def part(self, tower, called, tongue, many):
        functions = []
        for f in ["f", "g", "h", "i"][:many]:
            ahead = (*tower, ("part", called, tongue, tuple(functions)))
            for _ in range(10):
                kinds = self.kinds_of(tower, tongue)
                params = tuple([(x, self.chance.choice(kinds)) for x in ["x", "y", "z"][: self.chance.randrange(4)]])
                kind = self.chance.choice(kinds)
                try:
                    body = self.term(ahead, tongue, dict(params), kind, 4)
                except Stuck:
                    continue
                if len(parts(body)) <= 40:
                    functions.append((f, params, kind, body))
                    break
        return ("part", called, tongue, tuple(functions))

    def tower(self, tongues=3):
        """A tower of up to three tongues, each on the one ahead or another one, parts amid them."""
        tower = (self.part((), "low", "ground", 3),) if self.chance.random() < 0.7 else ()
        below = "ground"
        for called, part in [("one", "p"), ("two", "q"), ("three", "r")][:tongues]:
            tower = (*tower, self.tongue(tower, called, below))
            tower = (*tower, self.part(tower, part, called, 3))
            below = called if self.chance.random() < 0.85 else below
        return tower

    def good_tower(self, tongues=3):
        """A tower that is let by."""
        while True:
            tower = self.tower(tongues)
            try:
                look_tower(tower)
                return tower
            except TowerError as error:
                raise AssertionError((vars(error), tower)) from error


class MeaningChance:
    """Meanings of one form."""

    def __init__(self, around, tower, beneath, means, items):
        self.chance = around.chance
        self.around = around
        self.tower = tower
        self.beneath = beneath
        self.lits = len([item for item in items if item[0] == "lit"])
        self.owns = [means[item[1]] for item in items if item[0] == "name"]
        self.holes = [(means[item[1]], item[2]) for item in items if item[0] == "term"]
        self.tries = 0

    def number(self, steps, deep=2):
        some = [self.chance.randrange(0, 4)] * 2 + [lit(k) for k in range(self.lits)] * 2
        some += [turn(k) for k in range(len(steps))] * 2
        heads = self.around.heads(self.tower) if deep and self.around.makes else []
        if heads and self.chance.random() < 0.3:
            f, kinds, _ = self.chance.choice(heads)
            return made(f, *[self.number(steps, deep - 1) for _ in kinds])
        return self.chance.choice(some)

    def meaning(self, scope, due, steps, depth):
        chance = self.chance
        self.tries += 1
        if self.tries > 200:
            raise Stuck
        some = [("name", x) for x in scope if scope[x] == due]
        for k, (kind, opens) in enumerate(self.holes):
            if kind == due and all(own(j) in scope for j in opens):
                some += [("hole", k)] * 3
        if steps and not steps[0]["rested"] and steps[0]["due"] == due:
            some += [("rest", None)] * 4
        if depth > 0:
            some += [("use", form) for form in self.beneath[6] if form[2] == due] * 2
            some += [("choose", None)]
            if not steps:
                some += [("times", None)] * 2
            if self.around.calls:
                rows = self.around.heads(self.tower, self.beneath[1])
                some += [("call", head) for head in rows if head[2] == due]
        else:
            for form in self.beneath[6]:
                if form[2] == due and not [item for item in form[1] if item[0] == "term"]:
                    some.append(("use", form))
        chance.shuffle(some)
        for sort, what in some:
            rested = [step["rested"] for step in steps]
            try:
                return self.of_sort(sort, what, scope, due, steps, depth)
            except Stuck:
                for step, was in zip(steps, rested):
                    step["rested"] = was
        raise Stuck

    def of_sort(self, sort, what, scope, due, steps, depth):
        chance = self.chance
        if sort == "name":
            return ("name", what)
        if sort == "hole":
            return hole(what)
        if sort == "rest":
            steps[0]["rested"] = True
            return REST
        if sort == "choose":
            many = chance.randrange(1, 4)
            return choose(self.number(steps), *[self.meaning(scope, due, steps, depth - 1) for _ in range(many)])
        if sort == "times":
            number = self.number(steps)
            base = self.meaning(scope, due, steps, depth - 1)
            return times(number, base, self.meaning(scope, due, [{"rested": False, "due": due}, *steps], depth - 1))
        if sort == "call":
            return call(what[0], *[self.meaning(scope, kind, steps, depth - 1) for kind in what[1]])
        return self.use_of(what, scope, steps, depth)

    def use_of(self, form, scope, steps, depth):
        names = []
        things = []
        for item in form[1]:
            if item[0] == "lit":
                things.append(self.number(steps))
            if item[0] == "name":
                free = [own(k) for k, kind in enumerate(self.owns) if kind == item[1]]
                free = [x for x in free if x not in scope and x not in [n for n, _ in names]]
                texts = [x for x in "abcdefghijklmnopqrstuvwxyz" if x not in scope and x not in [n for n, _ in names]]
                x = self.chance.choice(free) if free and self.chance.random() < 0.8 else self.chance.choice(texts)
                names.append((x, item[1]))
                things.append(x)
            if item[0] == "term":
                inner = {**scope, **dict([names[k] for k in item[2]])}
                things.append(self.meaning(inner, item[1], steps, depth - 1))
        return use(self.beneath[1], form[0], *things)
