"""Who may be at home, who surely is, and the reports by which that is so."""

from itertools import combinations

from movedays.moves import kept_away, laziest, least_move
from movedays.tales import changed_houses
from movedays.villages import need_houses


def let_alone(village, report, c):
    """The houses where one report by itself lets who lived in c live, each as one bit."""
    x, y = report
    return sum([1 << p for p in village.ball(y, village.apart(x, c))])


def let_by_all(village, paper):
    """The houses, each as one bit, that all rows of a paper let; a row is a report and what it lets."""
    homes = (1 << village.houses()) - 1
    for _, let in paper:
        homes = homes & let
    return homes


def may_be_home(reports):
    """The houses, rising, of all who may be at home."""
    return [c for c in range(reports.village().houses()) if least_move(reports, c) == 0]


def surely_home(reports):
    """The houses, rising, of all who are at home in every tale that fits."""
    return [c for c in may_be_home(reports) if reports.may_live(c) == [c]]


def changed(reports):
    """The two next doors who have changed houses in every tale; None where somebody may be at home."""
    # In the laziest tale just those are at home who may be, and it is a tale as any other.
    return changed_houses(reports.village(), laziest(reports))


def home_paper(reports, c):
    """The shortest list of reports, of such the least, by which c is surely at home; or None."""
    village = reports.village()
    need_houses(village, [c])
    rows = [(report, let_alone(village, report, c)) for report in reports.reports()]
    # Two reports are enough where any are; shorter ones go ahead, then those of lesser reports.
    for many in range(3):
        for paper in combinations(rows, many):
            if let_by_all(village, paper) == 1 << c:
                return [report for report, _ in paper]
    return None


def moved_paper(reports, c):
    """The report by which c has moved farthest at least, of such the least; or None."""
    return kept_away(reports, c, c)[1]
