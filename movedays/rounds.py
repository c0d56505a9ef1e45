"""Rounds of reports: each is reported to live in the house of the next one."""


def round_from(goes, start):
    """The round that has start as its least house, from there on; empty where there is none."""
    row = [start]
    # No house is told as -1: a row of reports that ends comes to nobody.
    at = goes.get(start, -1)
    # From the start one may be led into a round of others, which never comes back to it.
    while at > start and at not in row:
        row.append(at)
        at = goes.get(at, -1)
    return row if at == start else []


def rounds(reports):
    """All rounds, each from its least house on, in the order of their first houses."""
    # Of each house there is one report at most: two would clash, and so no two rounds have a house in common.
    goes = {x: y for x, y in reports.reports()}
    rows = [round_from(goes, x) for x in range(reports.village().houses())]
    return [row for row in rows if row]
