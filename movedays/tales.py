"""Tales: where each lives now, who is at home, and how a tale goes on."""

from movedays.errors import NoDays, NoTale
from movedays.villages import need_houses


def need_tale(village, tale):
    """Refuse what is no tale of the village."""
    if not is_tale(village, tale):
        raise NoTale(None)


def behind(one, other):
    """Where each lives when the other tale has come behind the one."""
    return [other[p] for p in one]


def changed_houses(village, tale):
    """The two next doors, the lesser one ahead, who live in each other's house; None without such."""
    for x, y in village.roads():
        if tale[x] == y and tale[y] == x:
            return (x, y)
    return None


def is_tale(village, tale):
    """Whether the list has a house for each house, and no two are farther from one another."""
    need_houses(village, tale)
    if len(tale) != village.houses():
        return False
    # Who lived farther apart stays as near if next doors do, all along the way.
    return all([village.apart(tale[x], tale[y]) <= 1 for x, y in village.roads()])


def at_home(village, tale):
    """The houses, rising, of all who live where they lived."""
    need_tale(village, tale)
    return [c for c in range(village.houses()) if tale[c] == c]


def changed_in(village, tale):
    """The two next doors who have changed houses; None where somebody is at home."""
    need_tale(village, tale)
    # Where two have, nobody is at home: one of them would have come farther from who is.
    return changed_houses(village, tale)


def gone_on(village, tale, times):
    """Where each lives when the days of the tale have come so many times."""
    need_tale(village, tale)
    if times < 0:
        raise NoDays(times)
    homes = list(range(village.houses()))
    days = tale
    # The days are doubled, since there may be too many times to go on one by one.
    while times > 0:
        if times % 2 == 1:
            homes = behind(homes, days)
        days = behind(days, days)
        times = times // 2
    return homes


def meet(village, tale, x, z):
    """The least number of times behind which who lived in x and z live in one house; or None."""
    need_tale(village, tale)
    need_houses(village, [x, z])
    # Behind fewer times than there are houses each goes round in a ring, where nobody meets any more.
    for times in range(village.houses()):
        if x == z:
            return times
        x, z = tale[x], tale[z]
    return None
