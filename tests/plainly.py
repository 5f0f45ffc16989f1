"""What the document says of laying down and running, done plainly by calls: slow, and not of deep terms."""

from tests.samples import letters
from tonguetower.tongues import GROUND, fault_up


class Refused(Exception):
    """A use can't be laid down; where and why is told by other tests."""


class Fault(Exception):
    """A run ends by a fault: (fault, f, at)."""


class Long(Exception):
    """A run is too long."""


class Part:
    """A part of a term: of which written use it came, whether a meaning made it, which written uses begin here."""

    def __init__(self, sort, tongue, word, things, at, meant, begins):
        self.sort = sort
        self.tongue = tongue
        self.word = word
        self.things = things
        self.at = at
        self.meant = meant
        self.begins = begins

    def but(self, things, begins):
        return Part(self.sort, self.tongue, self.word, things, self.at, self.meant, begins)


def annotated(term, count):
    """A written term, its parts numbered from count[0] on."""
    at = count[0]
    count[0] += 1
    if term[0] == "name":
        return Part("name", "", term[1], [], at, False, [])
    things = [annotated(thing, count) if isinstance(thing, tuple) else thing for thing in term[-1]]
    if term[0] == "call":
        return Part("call", "", term[1], things, at, False, [])
    return Part("use", term[1], term[2], things, at, False, [at])


def bare(part):
    """The term that a part is."""
    if part.sort == "name":
        return ("name", part.word)
    things = tuple([bare(thing) if isinstance(thing, Part) else thing for thing in part.things])
    return ("call", part.word, things) if part.sort == "call" else ("use", part.tongue, part.word, things)


def all_parts(part):
    return [part, *[inner for thing in part.things if isinstance(thing, Part) for inner in all_parts(thing)]]


class Plain:
    def __init__(self, tower):
        self.tower = tower
        self.forms = {}
        self.functions = {}
        self.fresh = 0
        self.bodies = {}
        self.kept = {}
        for tongue in (GROUND, *[item for item in tower if item[0] == "tongue"]):
            for form in tongue[6]:
                self.forms[tongue[1], form[0]] = form
        for item in tower:
            if item[0] == "part":
                for function in item[3]:
                    self.functions[f"{item[1]}.{function[0]}"] = (item[2], function)

    def new_name(self):
        self.fresh += 1
        return "z" + letters(self.fresh)[:5]

    def items(self, part):
        """Each thing of a use, with its item."""
        form = self.forms[part.tongue, part.word]
        return list(zip([item for item in form[1] if item[0] != "sign"], part.things))

    def renamed(self, part, ways):
        """A part with free names exchanged for new ones."""
        if not ways or part.sort == "name":
            word = ways.get(part.word, part.word) if part.sort == "name" else part.word
            return Part(part.sort, part.tongue, word, part.things, part.at, part.meant, part.begins)
        if part.sort == "call":
            return part.but([self.renamed(thing, ways) for thing in part.things], part.begins)
        things = []
        names = [thing for thing in part.things if isinstance(thing, str)]
        for item, thing in self.items(part):
            if item[0] == "term":
                hidden = [names[k] for k in item[2]]
                thing = self.renamed(thing, {x: y for x, y in ways.items() if x not in hidden})
            things.append(thing)
        return part.but(things, part.begins)

    # Laying down.

    def laid_use(self, part):
        meaning = self.forms[part.tongue, part.word][3]
        told = self.put(meaning, part, {}, (), None)
        return told.but(told.things, part.begins + told.begins)

    def put(self, meaning, part, names, turns, rest):
        sort = meaning[0]
        if sort == "name":
            return Part("name", "", names[meaning[1]], [], part.at, True, [])
        if sort == "call":
            things = [self.put(inner, part, names, turns, rest) for inner in meaning[2]]
            return Part("call", "", meaning[1], things, part.at, True, [])
        if sort == "hole":
            item, thing = [row for row in self.items(part) if row[0][0] == "term"][meaning[1]]
            own = [x for x in part.things if isinstance(x, str)]
            return self.renamed(thing, {own[j]: names[("own", j)] for j in item[2]})
        if sort == "choose":
            at = self.number(meaning[1], part, turns)
            return self.put(meaning[2][min(at, len(meaning[2]) - 1)], part, names, turns, rest)
        if sort == "times":
            many = self.number(meaning[1], part, turns)
            if many > 9:
                raise Refused
            return self.turned(many, meaning, part, names, turns, rest)
        if sort == "rest":
            return rest()
        return self.put_use(meaning, part, names, turns, rest)

    def turned(self, many, meaning, part, names, turns, rest):
        if many == 0:
            return self.put(meaning[2], part, names, turns, rest)
        ahead = lambda: self.turned(many - 1, meaning, part, names, turns, rest)
        return self.put(meaning[3], part, names, (many - 1, *turns), ahead)

    def put_use(self, meaning, part, names, turns, rest):
        form = self.forms[meaning[1:3]]
        row = []
        told = []
        for item, thing in zip([item for item in form[1] if item[0] != "sign"], meaning[3]):
            if item[0] == "lit":
                told.append(self.number(thing, part, turns))
            if item[0] == "name":
                row.append((thing, self.new_name()))
                told.append(row[-1][1])
            if item[0] == "term":
                told.append(self.put(thing, part, {**names, **dict([row[k] for k in item[2]])}, turns, rest))
        return Part("use", meaning[1], meaning[2], told, part.at, True, [])

    def number(self, number, part, turns):
        if isinstance(number, int):
            return number
        if number[0] == "lit":
            return [thing for item, thing in self.items(part) if item[0] == "lit"][number[1]]
        if number[0] == "turn":
            return turns[number[1]]
        told = self.ran(number[1], [self.number(inner, part, turns) for inner in number[2]], 5000)
        if told[0] != "told":
            raise Refused
        return told[1]

    def laid_part(self, part):
        while part.sort == "use" and part.tongue != "ground":
            part = self.laid_use(part)
        things = [self.laid_part(thing) if isinstance(thing, Part) else thing for thing in part.things]
        return part.but(things, part.begins)

    def laid(self, term):
        return bare(self.laid_part(annotated(term, [0])))

    # Running: the calls are rows (function, the call).

    def ran(self, f, numbers, most=20000):
        return self.ran_seen(f, numbers, most)[0]

    def ran_seen(self, f, numbers, most=20000):
        key = (f, tuple(numbers), most)
        if key not in self.kept:
            self.kept[key] = self.ran_anew(f, numbers, most)
        return self.kept[key]

    def ran_anew(self, f, numbers, most):
        run = {"turns": 0, "most": most, "calls": [], "seen": []}
        tongue = self.functions[f][0] if f in self.functions else ""
        try:
            told = ("told", self.called(f, numbers, run, None), run["turns"])
        except Fault as error:
            fault, g, at = error.args
            told = ("fault", fault_up(self.tower, fault, "ground", tongue), g, at, run["turns"])
        except Long:
            return ("long",), []
        return told, [(g, at) for g, at in run["seen"] if self.functions[g][0] == tongue]

    def called(self, f, numbers, run, call):
        if f not in self.functions:
            raise Refused
        _, (_, params, _, body) = self.functions[f]
        if f not in self.bodies:
            self.bodies[f] = self.laid_part(annotated(body, [0]))
        run["calls"].append((f, call))
        told = self.reckoned(self.bodies[f], dict(zip([x for x, _ in params], numbers)), run)
        run["calls"].pop()
        return told

    def fault(self, word, part, run):
        for around, (_, call) in zip(run["calls"], run["calls"][1:]):
            if call.meant:
                return Fault(word, around[0], call.at)
        return Fault(word, run["calls"][-1][0], part.at)

    def reckoned(self, part, sight, run):
        run["seen"] += [(run["calls"][-1][0], at) for at in part.begins]
        if part.sort == "name":
            return sight[part.word]
        run["turns"] += 1
        if run["turns"] > run["most"]:
            raise Long
        things = part.things
        if part.sort == "call":
            return self.called(part.word, [self.reckoned(inner, sight, run) for inner in things], run, part)
        if part.word == "NUM":
            return things[0]
        if part.word == "LET":
            return self.reckoned(things[2], {**sight, things[0]: self.reckoned(things[1], sight, run)}, run)
        if part.word == "LOOP":
            many = self.reckoned(things[0], sight, run)
            told = self.reckoned(things[2], sight, run)
            for _ in range(many):
                told = self.reckoned(things[3], {**sight, things[1]: told}, run)
            return told
        one = self.reckoned(things[0], sight, run)
        if part.word == "IF":
            return self.reckoned(things[1] if one else things[2], sight, run)
        if part.word == "NEED" and not one:
            raise self.fault("need", part, run)
        other = self.reckoned(things[1], sight, run)
        if part.word == "NEED":
            return other
        if part.word == "/" and not other:
            raise self.fault("nought", part, run)
        ways = {"+": one + other, "-": one - other, "*": one * other, "<": one < other, "=": one == other}
        return one // other if part.word == "/" else int(ways[part.word]) % 1000
