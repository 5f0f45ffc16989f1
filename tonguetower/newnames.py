"""New names, that stand nowhere yet."""

LETTERS = "abcdefghijklmnopqrstuvwxyz"


def nth_name(at):
    """The name of a number, of all names: a to z, then aa, ab and so on."""
    name = ""
    left = at + 1
    while left > 0:
        name = LETTERS[(left - 1) % 26] + name
        left = (left - 1) // 26
    return name


class NewNames:
    """Tells names, each another one, and none of those that are taken."""

    def __init__(self, taken):
        self.taken = {name: True for name in taken}
        self.at = 0

    def told(self):
        """A new name."""
        while nth_name(self.at) in self.taken:
            self.at += 1
        self.at += 1
        return nth_name(self.at - 1)
