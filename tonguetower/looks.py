"""What is looked at in terms and in meanings alike."""

from tonguetower.heads import heads_of
from tonguetower.tongues import tongue_of
from tonguetower.uses import items_due, terms_opened


class Look:
    """A tongue's forms, by their heads, and the functions written in it, by their names."""

    def __init__(self, tower, tongue):
        self.tongue = tongue
        self.forms = {form[0]: form for form in tongue_of(tower, tongue)[6]}
        self.heads = {f: head for f, head in heads_of(tower).items() if head[0] == tongue}


def name_word(name, scope, due):
    """The first word that is so of a name, or the empty text; scope is a dict to the kinds of what is in sight."""
    if name not in scope:
        return "lost"
    return "" if scope[name] == due else "kind"


def shape_word(look, part, sorts):
    """The first of form, call, many that is so of a use or a call, by the sorts of its things, or the empty text."""
    if part[0] == "call":
        if part[1] not in look.heads:
            return "call"
        return "" if sorts == ["term"] * len(look.heads[part[1]][1]) else "many"
    if part[1] != look.tongue or part[2] not in look.forms:
        return "form"
    return "" if sorts == [item[0] for item in items_due(look.forms[part[2]])] else "many"


def kind_word(look, part, due):
    """The word kind where a use or a call gives another one than the kind due, or the empty text."""
    gives = look.heads[part[1]][2] if part[0] == "call" else look.forms[part[2]][2]
    return "" if gives == due else "kind"


def inner_dues(look, part, scope):
    """What stands in a use or a call, each with what is in sight there and the kind due."""
    if part[0] == "call":
        return [(inner, scope, kind) for inner, kind in zip(part[2], look.heads[part[1]][1])]
    rows = terms_opened(look.forms[part[2]], part[3])
    return [(inner, {**scope, **names} if names else scope, kind) for inner, kind, names in rows]
