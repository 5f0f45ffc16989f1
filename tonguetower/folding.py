"""Two tongues are folded to one."""

from tonguetower.errors import NoFold
from tonguetower.foldmeaning import Fold
from tonguetower.meanings import meaning_parts
from tonguetower.tongues import fault_up, kind_down, tongue_of


def folded_form(forms, form):
    """A form whose meaning is laid down one floor; refused where it can't be."""
    head, items, kind, meaning = form
    if any([part[0] == "call" for part in meaning_parts(meaning)]):
        raise NoFold("call", head)
    fold = Fold(forms)
    told = fold.folded(meaning)
    if fold.bound_twice:
        raise NoFold("bind", head)
    if fold.rest_astray:
        raise NoFold("rest", head)
    return (head, items, kind, told)


def folded(tower, name):
    """A tongue that stands on the tongue beneath the one on which it stood."""
    _, _, beneath, kinds, faults, _, forms = tongue_of(tower, name)
    if beneath in ("", "ground"):
        raise NoFold("ground", "")
    low = tongue_of(tower, tongue_of(tower, beneath)[2])
    lower_forms = {(tongue[1], form[0]): form for tongue in (tongue_of(tower, beneath), low) for form in tongue[6]}
    down = tuple([(kind, kind_down(tower, name, kind, low[1])) for kind, _ in kinds])
    tells = tuple([fault_up(tower, fault, low[1], name) for fault in low[4]])
    told = tuple([folded_form(lower_forms, form) for form in forms])
    return ("tongue", name, low[1], down, faults, tells, told)
