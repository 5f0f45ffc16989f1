"""Tongues are looked at."""

from tonguetower.errors import NoTongue
from tonguetower.meaninglook import first_wrong
from tonguetower.tongues import is_taken, tongue_names, tongue_of
from tonguetower.words import is_name, is_sign


def look_place(ahead, tongue):
    """Refuses a tongue by its name, or by what it stands on."""
    name, below = tongue[1:3]
    if not is_name(name) or is_taken(ahead, name):
        raise NoTongue("name", "", -1)
    if below not in tongue_names(ahead):
        raise NoTongue("below", "", -1)


def look_kinds(kinds, beneath):
    """Refuses the first wrong kind of a tongue, by the kinds of the tongue beneath."""
    names = [name for name, _ in kinds]
    meanings = [name for name, _ in beneath]
    for at, (name, meaning) in enumerate(kinds):
        if not is_name(name) or name in names[:at] or meaning not in meanings:
            raise NoTongue("kind", "", at)


def look_faults(faults):
    """Refuses the first wrong fault of a tongue."""
    for at, name in enumerate(faults):
        if not is_name(name) or name in faults[:at]:
            raise NoTongue("fault", "", at)


def look_tells(tells, faults, beneath):
    """Refuses the first wrong place of a tongue's tells, by its faults and those of the tongue beneath."""
    for at in range(max(len(tells), len(beneath))):
        if at >= min(len(tells), len(beneath)) or tells[at] not in faults:
            raise NoTongue("tells", "", at)


def item_word(item, kinds, names):
    """The first word that is so of a form's item, by how many names stand ahead of it, or the empty text."""
    if item[0] == "sign":
        return "" if is_sign(item[1]) else "sign"
    if item[0] == "lit":
        return ""
    if item[1] not in kinds:
        return "kind"
    if item[0] == "term" and any(k not in range(names) for k in item[2]):
        return "opens"
    return "opens" if item[0] == "term" and list(item[2]) != sorted(set(item[2])) else ""


def look_items(form, kinds):
    """Refuses the first wrong item of a form."""
    names = 0
    for at, item in enumerate(form[1]):
        word = item_word(item, kinds, names)
        if word:
            raise NoTongue(word, form[0], at)
        if item[0] == "name":
            names += 1


def look_form(ahead, tongue, at):
    """Refuses a form of a tongue, by its number."""
    form = tongue[6][at]
    kinds = [name for name, _ in tongue[3]]
    if not is_sign(form[0]) or form[0] in [other[0] for other in tongue[6][:at]]:
        raise NoTongue("head", form[0], -1)
    look_items(form, kinds)
    if form[2] not in kinds:
        raise NoTongue("gives", form[0], -1)
    wrong = first_wrong(ahead, tongue, form)
    if wrong:
        raise NoTongue(wrong[0], form[0], wrong[1])


def look_tongue(ahead, tongue):
    """True, or the first refusal of a tongue, behind the items ahead of it."""
    look_place(ahead, tongue)
    beneath = tongue_of(ahead, tongue[2])
    look_kinds(tongue[3], beneath[3])
    look_faults(tongue[4])
    look_tells(tongue[5], tongue[4], beneath[4])
    for at in range(len(tongue[6])):
        look_form(ahead, tongue, at)
    return True
