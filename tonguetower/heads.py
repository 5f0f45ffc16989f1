"""What others see of the functions of parts and faces."""


def head_of(function):
    """The head of a part's function."""
    name, params, kind, _ = function
    return (name, tuple([due for _, due in params]), kind)


def heads_in(item):
    """The heads of a part's functions, or of a face."""
    if item[0] == "face":
        return item[3]
    return tuple([head_of(function) for function in item[3]])


def heads_of(tower):
    """From the name of each function of a tower to (the tongue that it is written in, kinds, kind)."""
    found = {}
    for item in tower:
        if item[0] != "tongue":
            for name, kinds, kind in heads_in(item):
                found[f"{item[1]}.{name}"] = (item[2], kinds, kind)
    return found
