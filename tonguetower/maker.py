"""A maker keeps a tower, and what is made of it, while it grows and changes."""

from tonguetower.errors import NoFunction, NoItem, NotMade, TowerError
from tonguetower.joining import joined, ran_joined
from tonguetower.laying import PARTS, shop_of
from tonguetower.making import made_by
from tonguetower.runs import MOST
from tonguetower.stale import stale
from tonguetower.towers import look_tower


def with_item(tower, item):
    """A tower in which an item takes the place of the one of its name, or else stands last; looked at."""
    if item[1] in [other[1] for other in tower]:
        found = tuple([item if other[1] == item[1] else other for other in tower])
    else:
        found = (*tower, item)
    look_tower(found)
    return found


def without_item(tower, name):
    """A tower without the item of a name; looked at."""
    found = tuple([item for item in tower if item[1] != name])
    if len(found) == len(tower):
        raise NoItem(name)
    look_tower(found)
    return found


class Maker:
    """Keeps a tower; the tower that it was last made of, and the parts that were made of this one; and a log."""

    def __init__(self, *, most=PARTS):
        self._most = most
        self._now = ()
        self._then = ()
        self._parts = ()
        self._rows = []
        self._is_busy = False

    def put(self, item):
        """Puts an item in the place of the one of its name, or else last."""
        self._now = with_item(self._now, item)
        self._rows.append(("put", item[1]))

    def drop(self, name):
        """Drops the item of a name."""
        self._now = without_item(self._now, name)
        self._rows.append(("drop", name))

    def several(self, items, *, stay=False):
        """Puts items one behind the other; where one is refused those ahead are taken back, unless they are to stay."""
        before = self._now
        many = 0
        self._rows.append(("begin", len(items)))
        self._is_busy = True
        try:
            for item in items:
                self.put(item)
                many += 1
        except TowerError:
            if not stay:
                self._take_back(before, many)
                many = 0
            raise
        finally:
            self._rows.append(("end", many))
            self._is_busy = False

    def _take_back(self, before, many):
        """Takes back as many items as were put last, where a tower stood before."""
        names = [name for _, name in self._rows[len(self._rows) - many :]]
        self._rows.extend([("back", name) for name in reversed(names)])
        self._now = before

    def make(self):
        """Makes all stale parts; none of them stays made where one is refused."""
        names = stale(self._then, self._now)
        shop = shop_of(self._now)
        made = {part[1]: part for part in self._parts}
        some = [item for item in self._now if item[0] == "part"]
        many = 0
        self._rows.append(("make", len(names)))
        self._is_busy = True
        try:
            for part in some:
                if part[1] in names:
                    made[part[1]] = made_by(shop, part, self._most)
                    self._rows.append(("made", part[1]))
                    many += 1
        finally:
            self._rows.append(("end", many))
            self._is_busy = False
        self._parts = tuple([made[part[1]] for part in some])
        self._then = self._now
        return names

    def tower(self):
        """The tower."""
        return self._now

    def made(self):
        """The made parts, as the tower stood when it was last made."""
        return self._parts

    def run(self, f, args, *, most=MOST):
        """What a function tells by its arguments, as it was last made."""
        try:
            return ran_joined(self._then, joined(self._parts), f, args, most=most)
        except NoFunction as error:
            raise NotMade(error.f) from None

    def log(self):
        """What was done, in order."""
        return list(self._rows)

    def is_open(self):
        """Whether nothing is amid being done."""
        return not self._is_busy

    def __len__(self):
        return len(self._now)
