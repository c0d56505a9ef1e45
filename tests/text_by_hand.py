"""What the tests of the texts hold the program against: worked out from the words, without the program."""

import re

from by_hand import apart_by_hand

NUMBER = "(?:0|[1-9][0-9]{0,8})"
ROADS = re.compile(f"{NUMBER}-{NUMBER}(?: {NUMBER}-{NUMBER})*")
HEARD = re.compile(f"{NUMBER}>{NUMBER}(?:, {NUMBER}>{NUMBER})*")
TALE = re.compile(f"{NUMBER}(?: {NUMBER})*")


def pairs_of(text):
    """The numbers of the text, two by two."""
    found = [int(one) for one in re.findall("[0-9]+", text)]
    return list(zip(found[::2], found[1::2]))


def in_order(pairs):
    return pairs == sorted(set(pairs))


def roads_by_hand(text):
    """The roads that a text of a village writes, or None."""
    if text == "one":
        return []
    if not ROADS.fullmatch(text):
        return None
    roads = pairs_of(text)
    many = len(roads) + 1
    if not in_order(roads) or not all(x < y < many for x, y in roads):
        return None
    far = apart_by_hand(roads)
    return roads if max(max(row) for row in far) < many else None


def reports_by_hand(text):
    """The roads and the reports that a text of reports writes, or None."""
    village, colon, told = text.partition(": ")
    roads = roads_by_hand(village)
    if roads is None or not colon:
        return None
    if told == "none":
        return roads, []
    if not HEARD.fullmatch(told):
        return None
    reports = pairs_of(told)
    far = apart_by_hand(roads)
    if not in_order(reports) or max(max(report) for report in reports) >= len(far):
        return None
    clash = any(far[y][q] > far[x][z] for x, y in reports for z, q in reports)
    return None if clash else (roads, reports)


def tale_by_hand(text):
    """The numbers that a text of a tale writes, or None."""
    return [int(one) for one in text.split(" ")] if TALE.fullmatch(text) else None


# Villages and reports of forty, spelt out: a row of houses and a star; all reports of a turned star, of a
# mirrored row.
ROW = (
    "0-1 1-2 2-3 3-4 4-5 5-6 6-7 7-8 8-9 9-10 10-11 11-12 12-13 13-14 14-15 15-16 16-17 17-18 18-19 "
    "19-20 20-21 21-22 22-23 23-24 24-25 25-26 26-27 27-28 28-29 29-30 30-31 31-32 32-33 33-34 34-35 "
    "35-36 36-37 37-38 38-39"
)
STAR = (
    "0-20 1-20 2-20 3-20 4-20 5-20 6-20 7-20 8-20 9-20 10-20 11-20 12-20 13-20 14-20 15-20 16-20 17-20 "
    "18-20 19-20 20-21 20-22 20-23 20-24 20-25 20-26 20-27 20-28 20-29 20-30 20-31 20-32 20-33 20-34 "
    "20-35 20-36 20-37 20-38 20-39"
)
TURNED = (
    "0>1, 1>2, 2>3, 3>4, 4>5, 5>6, 6>7, 7>8, 8>9, 9>10, 10>11, 11>12, 12>13, 13>14, 14>15, 15>16, 16>17, "
    "17>18, 18>19, 19>21, 20>20, 21>22, 22>23, 23>24, 24>25, 25>26, 26>27, 27>28, 28>29, 29>30, 30>31, "
    "31>32, 32>33, 33>34, 34>35, 35>36, 36>37, 37>38, 38>39, 39>0"
)
MIRROR = (
    "0>39, 1>38, 2>37, 3>36, 4>35, 5>34, 6>33, 7>32, 8>31, 9>30, 10>29, 11>28, 12>27, 13>26, 14>25, "
    "15>24, 16>23, 17>22, 18>21, 19>20, 20>19, 21>18, 22>17, 23>16, 24>15, 25>14, 26>13, 27>12, 28>11, "
    "29>10, 30>9, 31>8, 32>7, 33>6, 34>5, 35>4, 36>3, 37>2, 38>1, 39>0"
)
STAR_ROADS = [(x, 20) for x in range(20)] + [(20, x) for x in range(21, 40)]
TURNED_TALE = list(range(1, 20)) + [21, 20] + list(range(22, 40)) + [0]
