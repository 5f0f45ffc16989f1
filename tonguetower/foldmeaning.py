"""A form's meaning, laid down one floor: a meaning of the tongue beneath the one beneath."""

from tonguetower.meanings import meaning_sort
from tonguetower.newnames import NewNames
from tonguetower.uses import items_due, items_of


class Shell:
    """A part of the folded meaning: how it begins, and the things that stand in it, parts among them shells, too."""

    def __init__(self, begin):
        self.begin = begin
        self.things = []
        self.whole = None

    def close(self):
        """Makes the part a meaning, those in it being closed."""
        things = tuple([thing.whole if isinstance(thing, Shell) else thing for thing in self.things])
        word = self.begin[0]
        if word in ("use", "call"):
            self.whole = (*self.begin, things)
        elif word == "choose":
            self.whole = (word, things[0], things[1:])
        else:
            self.whole = (*self.begin, *things)


class Step:
    """The step of a times: how many steps stand around the times, and whether its rest stood."""

    def __init__(self, floors):
        self.floors = floors
        self.rested = False


class Sight:
    """What a part of a meaning sees: what its names are now, the steps around it, inside out, in its own tongue.

    The use is the one that is laid down, or None for parts of the form's own meaning.
    """

    def __init__(self, names, steps, laid):
        self.names = names
        self.steps = steps
        self.laid = laid

    def seeing(self, names):
        """This sight where more names are seen."""
        return Sight({**self.names, **names}, self.steps, self.laid)


class LaidUse:
    """A use of the tongue beneath that is laid down: its things, and what they see."""

    def __init__(self, things, form, sight):
        self.sight = sight
        self.opens = [item[2] for item in items_of(form, "term")]
        self.lits = [thing for thing in things if meaning_sort(thing) == "lit"]
        self.names = [thing for thing in things if meaning_sort(thing) == "name"]
        self.terms = [thing for thing in things if meaning_sort(thing) == "term"]


class Around:
    """Where a part is put: how many steps stand around it, and which of the form's own names are in sight there."""

    def __init__(self, floors, bound):
        self.floors = floors
        self.bound = bound


class Fold:
    """Folds one form's meaning; forms are those of the two tongues beneath, by tongue and head.

    Told is also whether so a name is bound where it is bound around, or a rest stands where it can't.
    """

    def __init__(self, forms):
        self.forms = forms
        self.fresh = NewNames([])
        self.bound_twice = False
        self.rest_astray = False
        self.todo = []
        self.shells = []

    def folded(self, meaning):
        """The folded meaning."""
        root = Shell(("root",))
        self.todo = [(meaning, Sight({}, (), None), Around(0, {}), root.things)]
        while self.todo:
            thing, sight, around, target = self.todo.pop()
            sort = meaning_sort(thing)
            if sort == "lit":
                target.append(number_told(thing, sight, around))
            elif sort == "name":
                # The names of a use were exchanged as it began.
                target.append(thing)
            else:
                put = PUTS[thing[0]]
                put(self, thing, (sight, around), target)
        for shell in reversed(self.shells):
            shell.close()
        return root.things[0].whole

    def shell(self, begin, target):
        """A new part in its place; its things come later."""
        shell = Shell(begin)
        self.shells.append(shell)
        target.append(shell)
        return shell.things

    def later(self, rows, target):
        """Keeps things, each with what it sees and where it is put, to be put one behind the other."""
        self.todo.extend([(*row, target) for row in rows[::-1]])


def plain_number(number, sight, around):
    """What stands for a number, where it is put now, but for what a made is made of; and what it sees."""
    if isinstance(number, int) or number[0] == "made":
        return (number, sight)
    if number[0] == "turn":
        return (("turn", around.floors - 1 - sight.steps[number[1]].floors), sight)
    if sight.laid is None:
        return (number, sight)
    return plain_number(sight.laid.lits[number[1]], sight.laid.sight, around)


def number_told(number, sight, around):
    """What stands for a number, where it is put now."""
    told = []
    todo = [(number, sight, False)]
    while todo:
        inner, seeing, is_due = todo.pop()
        if is_due:
            many = len(told) - len(inner[2])
            told[many:] = [("made", inner[1], tuple(told[many:]))]
            continue
        plain, seeing = plain_number(inner, seeing, around)
        if isinstance(plain, tuple) and plain[0] == "made":
            todo.append((plain, seeing, True))
            todo.extend([(thing, seeing, False) for thing in plain[2][::-1]])
        else:
            told.append(plain)
    return told[0]


def put_use(fold, meaning, place, target):
    """Puts a use: one of the tongue beneath gives way to its meaning, in which uses stay."""
    sight, around = place
    if sight.laid is not None:
        put_lower_use(fold, meaning, place, target)
        return
    form = fold.forms[(meaning[1], meaning[2])]
    laid = LaidUse(meaning[3], form, sight)
    fold.later([(form[3], Sight({}, (), laid), around)], target)


def new_name(fold, name, laid):
    """What a name is exchanged for that a laid-down use's meaning binds: the folded form's own one, or a new text."""
    if isinstance(name, tuple) and isinstance(laid.names[name[1]], tuple):
        return laid.names[name[1]]
    return fold.fresh.told()


def put_lower_use(fold, meaning, place, target):
    """Puts a use of the tongue on which the folded one will stand."""
    sight, around = place
    made = [thing for thing in meaning[3] if meaning_sort(thing) == "name"]
    new = [new_name(fold, name, sight.laid) for name in made]
    if any([name in around.bound for name in new]):
        fold.bound_twice = True
    left = new[::-1]
    rows = []
    for item, thing in zip(items_due(fold.forms[(meaning[1], meaning[2])]), meaning[3]):
        if item[0] == "name":
            rows.append((left.pop(), sight, around))
        elif item[0] == "term":
            inner = sight.seeing({made[k]: new[k] for k in item[2]})
            bound = {new[k]: True for k in item[2]}
            rows.append((thing, inner, Around(around.floors, {**around.bound, **bound})))
        else:
            rows.append((thing, sight, around))
    fold.later(rows, fold.shell(meaning[:3], target))


def put_call(fold, meaning, place, target):
    """Puts a call."""
    fold.later([(thing, *place) for thing in meaning[2]], fold.shell(meaning[:2], target))


def put_name(fold, meaning, place, target):
    """Puts a name, by what it is now."""
    fold.shell(("name", place[0].names[meaning[1]]), target)


def put_hole(fold, meaning, place, target):
    """Puts a hole; one of a laid-down use gives way to the use's term, which sees the names that it opens."""
    sight, around = place
    laid = sight.laid
    if laid is None:
        fold.shell(meaning, target)
        return
    names = {laid.names[k]: sight.names[("own", k)] for k in laid.opens[meaning[1]]}
    inner = laid.sight.seeing(names)
    fold.later([(laid.terms[meaning[1]], inner, around)], target)


def put_choose(fold, meaning, place, target):
    """Puts a choose, all of it."""
    fold.later([(thing, *place) for thing in (meaning[1], *meaning[2])], fold.shell(("choose",), target))


def put_times(fold, meaning, place, target):
    """Puts a times; around its step stands one more."""
    sight, around = place
    inner = Sight(sight.names, (Step(around.floors), *sight.steps), sight.laid)
    rows = [(meaning[1], sight, around), (meaning[2], sight, around)]
    rows.append((meaning[3], inner, Around(around.floors + 1, around.bound)))
    fold.later(rows, fold.shell(("times",), target))


def put_rest(fold, meaning, place, target):
    """Puts a rest, which can't stand twice, nor within another step."""
    sight, around = place
    step = sight.steps[0]
    if step.rested or step.floors != around.floors - 1:
        fold.rest_astray = True
    step.rested = True
    fold.shell(meaning, target)


PUTS = {
    "use": put_use,
    "call": put_call,
    "name": put_name,
    "hole": put_hole,
    "choose": put_choose,
    "times": put_times,
    "rest": put_rest,
}
