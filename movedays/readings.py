"""Villages, reports and tales read back from the texts that movedays.texts writes."""

from movedays.errors import Clash, NoHouse, NoRoad, NoText
from movedays.reports import Reports
from movedays.villages import Village


def is_number(word):
    """Whether the word is a number: at most nine figures, without noughts ahead."""
    # Beyond ASCII there are more signs that count as figures.
    if not word.isascii() or not word.isdigit() or len(word) > 9:
        return False
    return word == "0" or not word.startswith("0")


def number(word, text):
    """The number that a word of the text writes; or NoText."""
    if not is_number(word):
        raise NoText(text)
    return int(word)


def pair(word, sign, text):
    """The two numbers, with the sign between them, that a word of the text writes; or NoText."""
    ends = word.split(sign)
    if len(ends) != 2:
        raise NoText(text)
    return (number(ends[0], text), number(ends[1], text))


def village_of(part, text):
    """The village that a part of the text writes; or NoText, with the whole text."""
    if part == "one":
        return Village([])
    roads = [pair(word, "-", text) for word in part.split(" ")]
    try:
        village = Village(roads)
    except NoRoad:
        raise NoText(text) from None
    # A village tells its roads in order, each with the lesser house ahead.
    if village.roads() != roads:
        raise NoText(text)
    return village


def hear_all(heard, told, text):
    """Tell the reports that the text writes; or NoText."""
    try:
        for x, y in told:
            heard.tell(x, y)
    except (NoHouse, Clash):
        raise NoText(text) from None
    # Reports are told in order, and each once.
    if heard.reports() != told:
        raise NoText(text)


def read_village(text):
    """The village that the text writes; or NoText."""
    return village_of(text, text)


def read_reports(text):
    """The reports that the text writes, of the village that it writes; or NoText."""
    parts = text.split(": ")
    if len(parts) != 2:
        raise NoText(text)
    heard = Reports(village_of(parts[0], text))
    if parts[1] != "none":
        hear_all(heard, [pair(word, ">", text) for word in parts[1].split(", ")], text)
    return heard


def read_tale(text):
    """The houses of the tale that the text writes; or NoText."""
    return [number(word, text) for word in text.split(" ")]
