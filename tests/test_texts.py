"""[17], and as far as it reaches [2]: villages, reports and tales as texts."""

import random
import unittest

from asking import heard_of, seconds
from by_hand import grown, row_of, some_tale, star_of, trees
from movedays.texts import show_reports, show_tale, show_village
from movedays.villages import Village
from text_by_hand import MIRROR, ROW, STAR, STAR_ROADS, TURNED, TURNED_TALE, reports_by_hand, roads_by_hand


class Villages(unittest.TestCase):
    def test_one_house(self):
        self.assertEqual(show_village(Village([])), "one")

    def test_two_houses(self):
        self.assertEqual(show_village(Village([(0, 1)])), "0-1")
        self.assertEqual(show_village(Village([(1, 0)])), "0-1")

    def test_in_order_with_the_lesser_house_ahead(self):
        self.assertEqual(show_village(Village([(4, 2), (1, 0), (3, 1), (2, 1)])), "0-1 1-2 1-3 2-4")
        self.assertEqual(show_village(Village([(3, 0), (3, 1), (1, 4), (3, 2)])), "0-3 1-3 1-4 2-3")

    def test_in_the_order_of_numbers(self):
        roads = [(x, 11) for x in range(11)]
        self.assertEqual(
            show_village(Village(roads)), "0-11 1-11 2-11 3-11 4-11 5-11 6-11 7-11 8-11 9-11 10-11"
        )
        self.assertEqual(
            show_village(Village(star_of(12))), "0-1 0-2 0-3 0-4 0-5 0-6 0-7 0-8 0-9 0-10 0-11"
        )

    def test_forty_houses(self):
        self.assertEqual(show_village(Village(row_of(40))), ROW)
        self.assertEqual(show_village(Village([(y, x) for x, y in row_of(40)[::-1]])), ROW)
        self.assertEqual(show_village(Village(STAR_ROADS)), STAR)

    def test_each_small_village(self):
        for many in range(2, 6):
            for roads in trees(many):
                rows = sorted(sorted(road) for road in roads)
                self.assertEqual(show_village(Village(roads)), " ".join(f"{x}-{y}" for x, y in rows))


class Reports(unittest.TestCase):
    def test_without_any(self):
        self.assertEqual(show_reports(heard_of([], [])), "one: none")
        self.assertEqual(show_reports(heard_of([(1, 0)], [])), "0-1: none")
        self.assertEqual(show_reports(heard_of(row_of(40), [])), ROW + ": none")

    def test_one_report(self):
        self.assertEqual(show_reports(heard_of([], [(0, 0)])), "one: 0>0")
        self.assertEqual(show_reports(heard_of([(0, 1)], [(1, 0)])), "0-1: 1>0")
        self.assertEqual(show_reports(heard_of(STAR_ROADS, [(39, 20)])), STAR + ": 39>20")

    def test_several_in_order(self):
        self.assertEqual(show_reports(heard_of(row_of(3), [(2, 0), (0, 2), (1, 1)])), "0-1 1-2: 0>2, 1>1, 2>0")
        self.assertEqual(show_reports(heard_of(row_of(3), [(2, 1), (0, 1), (2, 1)])), "0-1 1-2: 0>1, 2>1")
        told = [(11, 2), (2, 11), (10, 9), (9, 10)]
        self.assertEqual(
            show_reports(heard_of(star_of(12), told)),
            "0-1 0-2 0-3 0-4 0-5 0-6 0-7 0-8 0-9 0-10 0-11: 2>11, 9>10, 10>9, 11>2",
        )

    def test_all_taken_back(self):
        heard = heard_of(row_of(3), [(2, 0)])
        heard.take_back(2, 0)
        self.assertEqual(show_reports(heard), "0-1 1-2: none")

    def test_forty_reports(self):
        told = list(enumerate(TURNED_TALE))
        self.assertEqual(show_reports(heard_of(STAR_ROADS, told)), STAR + ": " + TURNED)
        self.assertEqual(show_reports(heard_of(STAR_ROADS, told[::-1])), STAR + ": " + TURNED)
        mirror = [(x, 39 - x) for x in range(40)]
        self.assertEqual(show_reports(heard_of(row_of(40), mirror[::-1])), ROW + ": " + MIRROR)

    def test_showing_changes_nothing(self):
        heard = heard_of(row_of(3), [(2, 0), (0, 2)])
        show_reports(heard)
        show_village(heard.village())
        self.assertEqual(heard, heard_of(row_of(3), [(0, 2), (2, 0)]))

    def test_greater_ones_as_worked_out(self):
        chance = random.Random(17)
        for many in [2, 9, 20, 40] * 10:
            roads = grown(chance, many)
            tale = some_tale(chance, roads)
            told = [(x, tale[x]) for x in chance.sample(range(many), chance.randrange(many + 1))]
            heard = heard_of(roads, told)
            rows = sorted((min(road), max(road)) for road in roads)
            self.assertEqual(roads_by_hand(show_village(heard.village())), rows)
            self.assertEqual(reports_by_hand(show_reports(heard)), (rows, sorted(told)))


class Tales(unittest.TestCase):
    def test_one_house(self):
        self.assertEqual(show_tale([0]), "0")
        self.assertEqual(show_tale([7]), "7")

    def test_many_houses(self):
        self.assertEqual(show_tale([2, 1, 0]), "2 1 0")
        self.assertEqual(show_tale([1, 1, 1, 0, 12]), "1 1 1 0 12")
        self.assertEqual(
            show_tale(TURNED_TALE),
            "1 2 3 4 5 6 7 8 9 10 11 12 13 14 15 16 17 18 19 21 20 "
            "22 23 24 25 26 27 28 29 30 31 32 33 34 35 36 37 38 39 0",
        )
        self.assertEqual(show_tale([5] * 300), "5" + " 5" * 299)

    def test_numbers_of_nine_figures(self):
        self.assertEqual(show_tale([999999999]), "999999999")
        self.assertEqual(show_tale([100000000, 0, 123456789]), "100000000 0 123456789")

    def test_the_tale_stays(self):
        tale = [2, 1, 0]
        show_tale(tale)
        self.assertEqual(tale, [2, 1, 0])


class Quick(unittest.TestCase):
    def test_quick_enough(self):
        village = Village(STAR_ROADS)
        heard = heard_of(STAR_ROADS, list(enumerate(TURNED_TALE)))
        self.assertLess(seconds(lambda: show_village(village)), 0.003)
        self.assertLess(seconds(lambda: show_reports(heard)), 0.003)
        for tale in [[999999999] * 400, [7] * 2000]:
            self.assertEqual(len(show_tale(tale)), 3999)
            self.assertLess(seconds(lambda: show_tale(tale)), 0.003)


if __name__ == "__main__":
    unittest.main()
