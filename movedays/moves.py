"""How far each has moved at least, and the tales in which all live as near as may be."""


def kept_away(reports, x, t):
    """How far from t the reports keep who lived in x, and the least that keeps so far; (0, None) if none does."""
    village = reports.village()
    # Here x and t are refused where there is no such house.
    far_x = village.far(x)
    far_t = village.far(t)
    most = 0
    least = None
    # In the order of tuples: of reports that keep as far away the first one is the least.
    for report in reports.reports():
        then, now = report
        if far_t[now] - far_x[then] > most:
            most = far_t[now] - far_x[then]
            least = report
    return (most, least)


def home_nearest(reports, x, t):
    """The house nearest to t of those where who lived in x may live."""
    most, report = kept_away(reports, x, t)
    if report is None:
        return t
    # Each report lets a ball, and all of these meet: nearest in the farthest ball is nearest in all at once.
    return reports.village().way(t, report[1])[most]


def least_move(reports, x):
    """How far who lived in x has moved at least."""
    return kept_away(reports, x, x)[0]


def laziest(reports):
    """The tale in which each has moved as little as in any tale that fits."""
    return [home_nearest(reports, x, x) for x in range(reports.village().houses())]


def nearest(reports, t):
    """The tale in which each lives as near to t as in any tale that fits."""
    return [home_nearest(reports, x, t) for x in range(reports.village().houses())]
