"""What a use comes to: its meaning, with the use's terms in the place of holes."""

from tonguetower.errors import NoMaking
from tonguetower.meanings import meaning_sort
from tonguetower.nodes import Node, Renamed
from tonguetower.uses import items_due, items_of

TURNS = 9


class Place:
    """Where a part of a meaning is put: the new names of what it sees, and the turns, inside out, of the steps around.

    rest is the times in whose step it stands, where that one stands, and by how many turns the rest is told.
    """

    def __init__(self, names, turns, rest):
        self.names = names
        self.turns = turns
        self.rest = rest

    def seeing(self, names):
        """This place where more names are seen."""
        return Place({**self.names, **names}, self.turns, self.rest) if names else self


class Growth:
    """A use that is laid down, by a shop that knows forms and made numbers; fresh tells new names."""

    def __init__(self, shop, fresh, node):
        form = shop.form(node.tongue, node.word)
        self.shop = shop
        self.fresh = fresh
        self.at = node.at
        self.meaning = form[3]
        self.opens = [item[2] for item in items_of(form, "term")]
        self.lits = [thing for thing in node.things if isinstance(thing, int)]
        self.names = [thing for thing in node.things if isinstance(thing, str)]
        self.terms = [thing for thing in node.things if not isinstance(thing, (int, str))]
        self.todo = []

    def grown(self):
        """What the use comes to; all its numbers are reckoned, from left to right."""
        root = []
        self.todo = [(self.meaning, Place({}, (), None), root)]
        while self.todo:
            thing, place, target = self.todo.pop()
            sort = meaning_sort(thing)
            if sort == "lit":
                target.append(self.number(thing, place))
            elif sort == "name":
                # The names of a use beneath were exchanged for new ones as it began.
                target.append(thing)
            else:
                put = PUTS[thing[0]]
                put(self, thing, place, target)
        return root[0]

    def number(self, number, place):
        """What stands for a number comes to; what a made is made of is reckoned ahead of it, from left to right."""
        told = []
        todo = [(number, False)]
        while todo:
            inner, is_due = todo.pop()
            if is_due:
                many = len(told) - len(inner[2])
                told[many:] = [self.made(inner[1], tuple(told[many:]))]
            elif not isinstance(inner, int) and inner[0] == "made":
                todo.append((inner, True))
                todo.extend([(thing, False) for thing in inner[2][::-1]])
            else:
                told.append(self.plain_number(inner, place))
        return told[0]

    def plain_number(self, number, place):
        """What stands for a number comes to where it isn't made."""
        if isinstance(number, int):
            return number
        return self.lits[number[1]] if number[0] == "lit" else place.turns[number[1]]

    def made(self, f, numbers):
        """What a function tells at making."""
        told, why = self.shop.number(f, numbers)
        if why:
            raise NoMaking(self.at, why)
        return told

    def later(self, rows, target):
        """Keeps things, each with its place, to be put one behind the other."""
        self.todo.extend([(thing, place, target) for thing, place in rows[::-1]])


def put_use(growth, meaning, place, target):
    """Puts a use beneath, the names that it makes being new ones."""
    node = Node("use", meaning[1], meaning[2], growth.at, False)
    target.append(node)
    made = [thing for thing in meaning[3] if meaning_sort(thing) == "name"]
    new = [growth.fresh.told() for _ in made]
    left = new[::-1]
    rows = []
    for item, thing in zip(items_due(growth.shop.form(meaning[1], meaning[2])), meaning[3]):
        if item[0] == "name":
            rows.append((left.pop(), place))
        elif item[0] == "term":
            rows.append((thing, place.seeing({made[k]: new[k] for k in item[2]})))
        else:
            rows.append((thing, place))
    growth.later(rows, node.things)


def put_call(growth, meaning, place, target):
    """Puts a call that the meaning makes."""
    node = Node("call", "", meaning[1], growth.at, False)
    target.append(node)
    growth.later([(thing, place) for thing in meaning[2]], node.things)


def put_name(growth, meaning, place, target):
    """Puts a name that the meaning binds."""
    target.append(Node("name", "", place.names[meaning[1]], growth.at, False))


def put_hole(growth, meaning, place, target):
    """Puts a term of the use, in which the names that it opens give way to those that are bound in its place."""
    term = growth.terms[meaning[1]]
    ways = {growth.names[k]: place.names[("own", k)] for k in growth.opens[meaning[1]]}
    target.append(Renamed(term, ways) if ways else term)


def put_choose(growth, meaning, place, target):
    """Puts one of some, by a number."""
    at = growth.number(meaning[1], place)
    some = meaning[2]
    growth.later([(some[min(at, len(some) - 1)], place)], target)


def put_times(growth, meaning, place, target):
    """Puts the last turn of a times; the turns ahead stand where its rest stands."""
    many = growth.number(meaning[1], place)
    if many > TURNS:
        raise NoMaking(growth.at, ("many",))
    put_turn(growth, (meaning, place, many), target)


def put_rest(growth, _, place, target):
    """Puts the turn ahead of the one in whose step the rest stands."""
    put_turn(growth, place.rest, target)


def put_turn(growth, rest, target):
    """Puts a times by a number of turns: the base, or a step with one turn less as its rest."""
    meaning, place, many = rest
    if many == 0:
        growth.later([(meaning[2], place)], target)
        return
    inner = Place(place.names, (many - 1, *place.turns), (meaning, place, many - 1))
    growth.later([(meaning[3], inner)], target)


PUTS = {
    "use": put_use,
    "call": put_call,
    "name": put_name,
    "hole": put_hole,
    "choose": put_choose,
    "times": put_times,
    "rest": put_rest,
}
