"""Reports of a village: who lived in one house lives in another one now."""

from movedays.errors import Clash, NoReport
from movedays.villages import Village, need_houses


def too_far(village, one, rows):
    """Those of the rows that one is farther from now; all are pairs of a house then and a house now."""
    x, p = one
    # Both asked once, since there may be many rows.
    far_then = village.far(x)
    far_now = village.far(p)
    return [(z, q) for z, q in rows if far_now[q] > far_then[z]]


class Reports:
    """The reports that were heard; some tale fits them all."""

    def __init__(self, village):
        # An own village, since nothing that is handed in is kept.
        self._village = Village(village.roads())
        self._heard = []

    def __eq__(self, other):
        return isinstance(other, Reports) and self._village == other._village and self._heard == other._heard

    def __ne__(self, other):
        return not self == other

    def village(self):
        """The village."""
        return self._village

    def tell(self, x, y):
        """Hear that who lived in x lives in y now."""
        need_houses(self._village, [x, y])
        report = (x, y)
        clashing = too_far(self._village, report, self._heard)
        # In the order of tuples: the first is the least.
        if clashing:
            raise Clash((report, clashing[0]))
        if report not in self._heard:
            self._heard = sorted(self._heard + [report])

    def take_back(self, x, y):
        """Forget that who lived in x lives in y now."""
        need_houses(self._village, [x, y])
        report = (x, y)
        if report not in self._heard:
            raise NoReport(report)
        self._heard = [heard for heard in self._heard if heard != report]

    def reports(self):
        """The reports, in the order of tuples, each once."""
        return list(self._heard)

    def may_live(self, x):
        """The houses, rising, where who lived in x lives in some tale that fits."""
        far_then = self._village.far(x)
        homes = list(range(self._village.houses()))
        # Nobody lives farther from who is reported than they did.
        for then, now in self._heard:
            far_now = self._village.far(now)
            homes = [p for p in homes if far_now[p] <= far_then[then]]
        return homes

    def may(self, choices):
        """Whether in one tale that fits each x of the pairs (x, p) lives in its p."""
        for x, p in choices:
            need_houses(self._village, [x, p])
        # One may live just where each report by itself lets it: a report counts as one choice more.
        rows = self._heard + list(choices)
        return all([not too_far(self._village, choice, rows) for choice in choices])

    def near(self, x, z):
        """How far who lived in x and z live from one another now: (least, greatest)."""
        # Asked first, so that x is refused ahead of z.
        bound = self._village.apart(x, z)
        homes = self.may_live(z)
        told = [self._village.apart(p, q) for p in self.may_live(x) for q in homes]
        ways = [many for many in told if many <= bound]
        return (min(ways), max(ways))
