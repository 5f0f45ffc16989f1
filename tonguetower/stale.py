"""Which parts of a tower must be made anew, and why."""

from tonguetower.inputs import inputs_of, seen_of


def are_same(one, other):
    """Whether two things of an item, tuples within one another, hold the same."""
    todo = [(one, other)]
    while todo:
        thing, twin = todo.pop()
        if not isinstance(thing, tuple) or not isinstance(twin, tuple):
            if thing != twin:
                return False
        elif len(thing) != len(twin):
            return False
        else:
            todo.extend(list(zip(thing, twin)))
    return True


def is_kept(items, item, is_whole):
    """Whether an input is the same in an old tower, whose items stand by their names."""
    if item[1] not in items:
        return False
    old = items[item[1]]
    return are_same(item, old) if is_whole else are_same(seen_of(item), seen_of(old))


def first_changed(items, inputs):
    """The name of the first of some inputs that is another one in an old tower, or None."""
    changed = [item[1] for item, is_whole in inputs if not is_kept(items, item, is_whole)]
    return changed[0] if changed else None


def why_stale(old, new):
    """From the name of each stale part of a new tower to the name of its first input that is another one."""
    items = {item[1]: item for item in old}
    found = {}
    for item in new:
        if item[0] == "part":
            name = first_changed(items, inputs_of(new, item))
            if name is not None:
                found[item[1]] = name
    return found


def stale(old, new):
    """The names of the parts of a new tower that aren't made of just the same things as in an old one, in order."""
    return list(why_stale(old, new))
