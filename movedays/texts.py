"""Villages, reports and tales as texts; movedays.readings reads them back."""


def show_village(village):
    """The village as its roads, or as the word for one house."""
    rows = [f"{x}-{y}" for x, y in village.roads()]
    return " ".join(rows) if rows else "one"


def show_reports(reports):
    """The village, and behind it the reports, or the word for none."""
    rows = [f"{x}>{y}" for x, y in reports.reports()]
    told = ", ".join(rows) if rows else "none"
    return show_village(reports.village()) + ": " + told


def show_tale(tale):
    """The houses of the tale."""
    return " ".join([str(house) for house in tale])
