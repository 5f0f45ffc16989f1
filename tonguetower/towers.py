"""Parts, faces and towers are looked at; the functions of towers are found by their names."""

from tonguetower.errors import NoBody, NoFunction, NoPart, NoTerm
from tonguetower.heads import heads_in
from tonguetower.kinds import look_term
from tonguetower.tonguelook import look_tongue
from tonguetower.tongues import is_taken, tongue_names, tongue_of
from tonguetower.words import is_name


def face_of(part):
    """What others see of a part."""
    return ("face", part[1], part[2], heads_in(part))


def with_functions(item, functions):
    """A part or a face with other functions or heads."""
    return (*item[:3], functions)


def look_place(ahead, item):
    """Refuses a part or a face by its name, or by its tongue."""
    if not is_name(item[1]) or is_taken(ahead, item[1]):
        raise NoPart("name", "", -1)
    if item[2] not in tongue_names(ahead):
        raise NoPart("tongue", "", -1)


def wrong_params(item, at, kinds):
    """Of each param of a function or a head whether it is wrong, in order."""
    params = item[3][at][1]
    if item[0] == "face":
        return [kind not in kinds for kind in params]
    names = [name for name, _ in params]
    return [not is_name(name) or name in names[:k] or kind not in kinds for k, (name, kind) in enumerate(params)]


def look_head(item, at, kinds):
    """Refuses a function or a head of a part or a face, by its number, but for a body."""
    name, _, gives = item[3][at][:3]
    if not is_name(name) or name in [other[0] for other in item[3][:at]]:
        raise NoPart("twice", name, -1)
    wrong = wrong_params(item, at, kinds)
    if any(wrong):
        raise NoPart("param", name, wrong.index(True))
    if gives not in kinds:
        raise NoPart("gives", name, -1)


def look_body(ahead, part, at):
    """Refuses the body of a part's function, by its number."""
    name, params, kind, body = part[3][at]
    seen = (*ahead, with_functions(part, part[3][:at]))
    try:
        look_term(seen, part[2], params, kind, body)
    except NoTerm as error:
        raise NoPart(error.word, name, error.at) from None


def look_part(ahead, item):
    """True, or the first refusal of a part or a face, behind the items ahead of it."""
    look_place(ahead, item)
    kinds = [kind for kind, _ in tongue_of(ahead, item[2])[3]]
    for at in range(len(item[3])):
        look_head(item, at, kinds)
        if item[0] == "part":
            look_body(ahead, item, at)
    return True


def look_tower(tower):
    """True, or the refusal of the first item that isn't let by, each looked at behind those ahead of it."""
    for at, item in enumerate(tower):
        if item[0] == "tongue":
            look_tongue(tower[:at], item)
        else:
            look_part(tower[:at], item)
    return True


def place_of(tower, f):
    """Where a part's function stands: the part's number in a tower, and its own number in the part."""
    part, _, function = f.partition(".")
    for at, item in enumerate(tower):
        names = [head[0] for head in item[3]] if item[0] != "tongue" and item[1] == part else []
        if function in names and item[0] == "face":
            raise NoBody(f)
        if function in names:
            return (at, names.index(function))
    raise NoFunction(f)


def function_of(tower, f):
    """A function of a tower, by its name."""
    at, k = place_of(tower, f)
    return tower[at][3][k]


def ahead_of(tower, f):
    """The items ahead of a function's part, and this one with the functions ahead of the function."""
    at, k = place_of(tower, f)
    return (*tower[:at], with_functions(tower[at], tower[at][3][:k]))
