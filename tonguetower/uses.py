"""What stands in a use, by its form."""


def items_due(form):
    """The items of a form for which its use has a thing, in order."""
    return [item for item in form[1] if item[0] != "sign"]


def items_of(form, sort):
    """The items of a form of one sort, in order."""
    return [item for item in form[1] if item[0] == sort]


def names_made(form, things):
    """The names that a use makes, in order, each with its kind."""
    due = zip(items_due(form), things)
    return [(thing, item[1]) for item, thing in due if item[0] == "name"]


def terms_opened(form, things):
    """The terms of a use, each with the kind due of it and a dict from the names that it opens to their kinds."""
    names = names_made(form, things)
    found = []
    for item, thing in zip(items_due(form), things):
        if item[0] == "term":
            found.append((thing, item[1], dict([names[k] for k in item[2]])))
    return found
