"""Meanings are looked at."""

from tonguetower.heads import heads_of
from tonguetower.looks import Look, inner_dues, kind_word, name_word, shape_word
from tonguetower.meanings import meaning_sort, meaning_things
from tonguetower.uses import items_of, names_made
from tonguetower.words import is_name


class FormLook:
    """What a form's meaning is looked at by: what it is made of, and what the use has; kinds are those beneath."""

    def __init__(self, ahead, tongue, form):
        means = dict(tongue[3])
        self.beneath = Look(ahead, tongue[2])
        self.params = {f: len(head[1]) for f, head in heads_of(ahead).items()}
        self.lits = len(items_of(form, "lit"))
        self.names = [means[item[1]] for item in items_of(form, "name")]
        self.holes = [(means[item[1]], item[2]) for item in items_of(form, "term")]
        self.due = means[form[2]]


class Step:
    """The step of a times: what is due of its rest, and whether a rest stood."""

    def __init__(self, due):
        self.due = due
        self.rested = False


class Place:
    """Where a part of a meaning stands: names in sight with their kinds, the kind due, the steps around, inside out."""

    def __init__(self, scope, due, steps):
        self.scope = scope
        self.due = due
        self.steps = steps


def is_wrong_alone(look, number, place):
    """Whether what stands for a number is none, but for what it is made of."""
    if meaning_sort(number) != "lit":
        return True
    if isinstance(number, int):
        return not 0 <= number <= 999
    if number[0] == "lit":
        return not 0 <= number[1] < look.lits
    if number[0] == "turn":
        return not 0 <= number[1] < len(place.steps)
    return look.params.get(number[1], -1) != len(number[2])


def is_wrong_number(look, number, place):
    """Whether what stands for a number, or anything that it is made of, is none."""
    todo = [number]
    while todo:
        inner = todo.pop()
        if is_wrong_alone(look, inner, place):
            return True
        if not isinstance(inner, int) and inner[0] == "made":
            todo.extend(inner[2])
    return False


def is_wrong_name(look, name, kind, scope):
    """Whether a use beneath can't make a name of a kind, by what is in sight around it."""
    if name in scope:
        return True
    if isinstance(name, str):
        return not is_name(name)
    return not 0 <= name[1] < len(look.names) or look.names[name[1]] != kind


def binds_wrong(look, part, scope):
    """Whether any name that a use beneath makes can't be made there."""
    names = names_made(look.beneath.forms[part[2]], part[3])
    if len(dict(names)) < len(names):
        return True
    return any(is_wrong_name(look, name, kind, scope) for name, kind in names)


def beneath_word(look, part, place):
    """The first word that is so of a use or a call beneath, or the empty text."""
    things = meaning_things(part)
    word = shape_word(look.beneath, part, [meaning_sort(thing) for thing in things])
    if word:
        return word
    numbers = [thing for thing in things if meaning_sort(thing) == "lit"]
    if any(is_wrong_number(look, number, place) for number in numbers):
        return "lit"
    if part[0] == "use" and binds_wrong(look, part, place.scope):
        return "bind"
    return kind_word(look.beneath, part, place.due)


def reckoned_word(look, part, place):
    """The first word that is so of a choose or a times, or the empty text."""
    number, *inner = meaning_things(part)
    if not inner or any(meaning_sort(thing) != "term" for thing in inner):
        return "many"
    return "lit" if is_wrong_number(look, number, place) else ""


def hole_word(look, part, place):
    """The first word that is so of a hole, or the empty text."""
    if not 0 <= part[1] < len(look.holes):
        return "hole"
    kind, opens = look.holes[part[1]]
    if any(("own", k) not in place.scope for k in opens):
        return "open"
    return "" if kind == place.due else "kind"


def rest_word(place):
    """The first word that is so of a rest, or the empty text."""
    if not place.steps or place.steps[0].rested:
        return "rest"
    return "" if place.steps[0].due == place.due else "kind"


def wrong_word(look, part, place):
    """The first word that is so of a part of a meaning, or the empty text."""
    if part[0] == "name":
        return name_word(part[1], place.scope, place.due)
    if part[0] == "hole":
        return hole_word(look, part, place)
    if part[0] == "rest":
        return rest_word(place)
    if part[0] in ("choose", "times"):
        return reckoned_word(look, part, place)
    return beneath_word(look, part, place)


def inner_places(look, part, place):
    """The meanings that stand in a part, each with its place."""
    if part[0] in ("use", "call"):
        rows = inner_dues(look.beneath, part, place.scope)
        return [(inner, Place(scope, due, place.steps)) for inner, scope, due in rows]
    if part[0] == "choose":
        return [(inner, place) for inner in part[2]]
    if part[0] == "times":
        steps = (Step(place.due), *place.steps)
        return [(part[2], place), (part[3], Place(place.scope, place.due, steps))]
    return []


def first_wrong(ahead, tongue, form):
    """The first (word, part's number) that is so of a form's meaning, or None."""
    look = FormLook(ahead, tongue, form)
    at = 0
    todo = [(form[3], Place({}, look.due, ()))]
    while todo:
        part, place = todo.pop()
        word = wrong_word(look, part, place)
        if word:
            return (word, at)
        if part[0] == "rest":
            step = place.steps[0]
            step.rested = True
        at += 1
        todo.extend(inner_places(look, part, place)[::-1])
    return None
