"""What the document says of laying down and running, done plainly by calls: slow, and not of deep terms."""

from tests.samples import letters
from tonguetower.errors import NoBody, NoMaking, TooBig, TooLong, Unmade
from tonguetower.tongues import GROUND, fault_up


class Refused(Exception):
    """What is refused, as a row: its word, then what it tells."""

    def __init__(self, *row):
        Exception.__init__(self, *row)
        self.row = row


class Fault(Exception):
    """A run ends by a fault: (fault, f, at)."""


def row_of(tell, *some, **more):
    """What the program tells, or what it refuses, as a row like those of Plain."""
    try:
        return tell(*some, **more)
    except NoMaking as error:
        return ("making", error.at, error.why)
    except Unmade as error:
        return ("unmade", error.f, error.at, error.why)
    except TooBig as error:
        return ("big", error.most)
    except TooLong as error:
        return ("long", error.most)
    except NoBody as error:
        return ("face", error.f)


class Part:
    """A part of a term: of which written use it came, whether a meaning made it, which written uses begin here."""

    def __init__(self, sort, tongue, word, things, at, meant, begins):
        self.sort = sort
        self.tongue = tongue
        self.word = word
        self.things = things
        self.at = at
        self.meant = meant
        self.begins = begins

    def but(self, things, begins):
        return Part(self.sort, self.tongue, self.word, things, self.at, self.meant, begins)


def annotated(term, count):
    """A written term, its parts numbered from count[0] on."""
    at = count[0]
    count[0] += 1
    if term[0] == "name":
        return Part("name", "", term[1], [], at, False, [])
    things = [annotated(thing, count) if isinstance(thing, tuple) else thing for thing in term[-1]]
    if term[0] == "call":
        return Part("call", "", term[1], things, at, False, [])
    return Part("use", term[1], term[2], things, at, False, [at])


def bare(part):
    """The term that a part is."""
    if part.sort == "name":
        return ("name", part.word)
    things = tuple([bare(thing) if isinstance(thing, Part) else thing for thing in part.things])
    return ("call", part.word, things) if part.sort == "call" else ("use", part.tongue, part.word, things)


def all_parts(part):
    return [part, *[inner for thing in part.things if isinstance(thing, Part) for inner in all_parts(thing)]]


class Plain:
    def __init__(self, tower):
        self.tower = tower
        self.forms = {}
        self.functions = {}
        self.fresh = 0
        self.bodies = {}
        self.kept = {}
        for tongue in (GROUND, *[item for item in tower if item[0] == "tongue"]):
            for form in tongue[6]:
                self.forms[tongue[1], form[0]] = form
        for item in tower:
            if item[0] == "part":
                for function in item[3]:
                    self.functions[f"{item[1]}.{function[0]}"] = (item[2], function)

    def new_name(self):
        self.fresh += 1
        return "z" + letters(self.fresh)[:5]

    def items(self, part):
        """Each thing of a use, with its item."""
        form = self.forms[part.tongue, part.word]
        return list(zip([item for item in form[1] if item[0] != "sign"], part.things))

    def renamed(self, part, ways):
        """A part with free names exchanged for new ones."""
        if not ways or part.sort == "name":
            word = ways.get(part.word, part.word) if part.sort == "name" else part.word
            return Part(part.sort, part.tongue, word, part.things, part.at, part.meant, part.begins)
        if part.sort == "call":
            return part.but([self.renamed(thing, ways) for thing in part.things], part.begins)
        things = []
        names = [thing for thing in part.things if isinstance(thing, str)]
        for item, thing in self.items(part):
            if item[0] == "term":
                hidden = [names[k] for k in item[2]]
                thing = self.renamed(thing, {x: y for x, y in ways.items() if x not in hidden})
            things.append(thing)
        return part.but(things, part.begins)

    # Laying down.

    def laid_use(self, part):
        meaning = self.forms[part.tongue, part.word][3]
        told = self.put(meaning, part, {}, (), None)
        return told.but(told.things, part.begins + told.begins)

    def put(self, meaning, part, names, turns, rest):
        sort = meaning[0]
        if sort == "name":
            return Part("name", "", names[meaning[1]], [], part.at, True, [])
        if sort == "call":
            things = [self.put(inner, part, names, turns, rest) for inner in meaning[2]]
            return Part("call", "", meaning[1], things, part.at, True, [])
        if sort == "hole":
            item, thing = [row for row in self.items(part) if row[0][0] == "term"][meaning[1]]
            own = [x for x in part.things if isinstance(x, str)]
            return self.renamed(thing, {own[j]: names[("own", j)] for j in item[2]})
        if sort == "choose":
            at = self.number(meaning[1], part, turns)
            return self.put(meaning[2][min(at, len(meaning[2]) - 1)], part, names, turns, rest)
        if sort == "times":
            many = self.number(meaning[1], part, turns)
            if many > 9:
                raise Refused("making", part.at, ("many",))
            return self.turned(many, meaning, part, names, turns, rest)
        if sort == "rest":
            return rest()
        return self.put_use(meaning, part, names, turns, rest)

    def turned(self, many, meaning, part, names, turns, rest):
        if many == 0:
            return self.put(meaning[2], part, names, turns, rest)
        ahead = lambda: self.turned(many - 1, meaning, part, names, turns, rest)
        return self.put(meaning[3], part, names, (many - 1, *turns), ahead)

    def put_use(self, meaning, part, names, turns, rest):
        form = self.forms[meaning[1:3]]
        row = []
        told = []
        for item, thing in zip([item for item in form[1] if item[0] != "sign"], meaning[3]):
            if item[0] == "lit":
                told.append(self.number(thing, part, turns))
            if item[0] == "name":
                row.append((thing, self.new_name()))
                told.append(row[-1][1])
            if item[0] == "term":
                told.append(self.put(thing, part, {**names, **dict([row[k] for k in item[2]])}, turns, rest))
        return Part("use", meaning[1], meaning[2], told, part.at, True, [])

    def number(self, number, part, turns):
        if isinstance(number, int):
            return number
        if number[0] == "lit":
            return [thing for item, thing in self.items(part) if item[0] == "lit"][number[1]]
        if number[0] == "turn":
            return turns[number[1]]
        numbers = [self.number(inner, part, turns) for inner in number[2]]
        told = self.ran(number[1], numbers, 5000)
        whys = {"face": ("face",), "unmade": ("unmade",), "big": ("unmade",), "long": ("long",), "fault": told[:4]}
        if told[0] != "told":
            raise Refused("making", part.at, whys[told[0]])
        return told[1]

    def laid_part(self, part, most=3000, floors=0, count=None):
        count = count or [0]
        while part.sort == "use" and part.tongue != "ground":
            part = self.laid_use(part)
        count[0] += 1
        if count[0] > most or floors > 40:
            raise Refused("big", most)
        inner = [self.laid_part(one, most, floors + 1, count) if isinstance(one, Part) else one for one in part.things]
        return part.but(inner, part.begins)

    def laid(self, term, most=3000):
        """The ground term that a term comes to, or the row of what is refused."""
        try:
            return bare(self.laid_part(annotated(term, [0]), most))
        except Refused as refused:
            return refused.row

    def lay_ahead(self, f):
        """Lays down a function and all that its ground calls, each as it is first come to."""
        row = [f]
        done = []
        while row:
            g = row.pop(0)
            done.append(g)
            for part in all_parts(self.body(g)):
                if part.sort == "call" and part.word not in [*done, *row]:
                    row.append(part.word)
        return done

    def body(self, f):
        if f not in self.functions:
            raise Refused("face", f)
        if f not in self.bodies:
            try:
                self.bodies[f] = self.laid_part(annotated(self.functions[f][1][3], [0]))
            except Refused as refused:
                raise Refused("unmade", f, *refused.row[1:]) if refused.row[0] == "making" else refused
        return self.bodies[f]

    def body_by(self, f, most):
        """A function's body, laid down to most parts, or the row of what is refused."""
        try:
            return self.laid_part(annotated(self.functions[f][1][3], [0]), most)
        except Refused as refused:
            return ("unmade", f, *refused.row[1:]) if refused.row[0] == "making" else refused.row

    # Running: the calls are rows (function, the call).

    def ran(self, f, numbers, most=20000):
        return self.ran_seen(f, numbers, most)[0]

    def ran_seen(self, f, numbers, most=20000, need=False):
        """What is told, or the row of what is refused; and what is seen."""
        key = (f, tuple(numbers), most, need)
        if key not in self.kept:
            self.kept[key] = self.ran_anew(f, numbers, most, need)
        return self.kept[key]

    def ran_anew(self, f, numbers, most, need):
        run = {"turns": 0, "most": most, "calls": [], "seen": [], "need": need}
        tongue = self.functions[f][0] if f in self.functions else ""
        try:
            if not need:
                self.lay_ahead(f)
            told = ("told", self.called(f, numbers, run, None), run["turns"])
        except Fault as error:
            fault, g, at = error.args
            told = ("fault", fault_up(self.tower, fault, "ground", tongue), g, at, run["turns"])
        except Refused as refused:
            return refused.row, []
        return told, [(g, at) for g, at in run["seen"] if self.functions[g][0] == tongue]

    def called(self, f, numbers, run, call):
        if f not in self.functions:
            raise Refused("face", f)
        _, (_, params, _, body) = self.functions[f]
        part = annotated(body, [0]) if run["need"] else self.bodies[f]
        run["calls"].append((f, call))
        told = self.reckoned(part, dict(zip([x for x, _ in params], numbers)), run)
        run["calls"].pop()
        return told

    def fault(self, word, part, run):
        for around, (_, call) in zip(run["calls"], run["calls"][1:]):
            if call.meant:
                return Fault(word, around[0], call.at)
        return Fault(word, run["calls"][-1][0], part.at)

    def ripe(self, part, run):
        """A part that is laid down by need."""
        try:
            while part.sort == "use" and part.tongue != "ground":
                part = self.laid_use(part)
        except Refused as refused:
            raise Refused("unmade", run["calls"][-1][0], *refused.row[1:])
        return part

    def reckoned(self, part, sight, run):
        part = self.ripe(part, run)
        run["seen"] += [(run["calls"][-1][0], at) for at in part.begins]
        if part.sort == "name":
            return sight[part.word]
        run["turns"] += 1
        if run["turns"] > run["most"]:
            raise Refused("long", run["most"])
        things = part.things
        if part.sort == "call":
            return self.called(part.word, [self.reckoned(inner, sight, run) for inner in things], run, part)
        if part.word == "NUM":
            return things[0]
        if part.word == "LET":
            return self.reckoned(things[2], {**sight, things[0]: self.reckoned(things[1], sight, run)}, run)
        if part.word == "LOOP":
            many = self.reckoned(things[0], sight, run)
            told = self.reckoned(things[2], sight, run)
            for _ in range(many):
                told = self.reckoned(things[3], {**sight, things[1]: told}, run)
            return told
        one = self.reckoned(things[0], sight, run)
        if part.word == "IF":
            return self.reckoned(things[1] if one else things[2], sight, run)
        if part.word == "NEED" and not one:
            raise self.fault("need", part, run)
        other = self.reckoned(things[1], sight, run)
        if part.word == "NEED":
            return other
        if part.word == "/" and not other:
            raise self.fault("nought", part, run)
        ways = {"+": one + other, "-": one - other, "*": one * other, "<": one < other, "=": one == other}
        return one // other if part.word == "/" else int(ways[part.word]) % 1000
