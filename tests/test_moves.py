"""[10], and as far as they reach [2], [3] and [4]: least moves."""

import random
import unittest

from asking import Asking, heard_of, seconds
from by_hand import apart_by_hand, grown, homes_in_some_tale, row_of, some_tale, star_of
from movedays.errors import NoHouse
from movedays.moves import laziest, least_move, nearest


class LeastMove(unittest.TestCase):
    def test_as_far_as_a_report_says(self):
        heard = heard_of(row_of(5), [(0, 4)])
        self.assertEqual([least_move(heard, x) for x in range(5)], [4, 2, 0, 0, 0])
        heard = heard_of(star_of(4), [(1, 2)])
        self.assertEqual([least_move(heard, x) for x in range(4)], [0, 2, 0, 0])

    def test_the_greatest_over_all_reports(self):
        heard = heard_of(row_of(6), [(0, 3), (1, 4)])
        self.assertEqual([least_move(heard, x) for x in range(6)], [3, 3, 1, 0, 0, 0])
        heard.take_back(1, 4)
        self.assertEqual([least_move(heard, x) for x in range(6)], [3, 1, 0, 0, 0, 0])

    def test_never_below_nought(self):
        heard = heard_of(row_of(4), [(3, 1)])
        self.assertEqual([least_move(heard, x) for x in range(4)], [0, 0, 0, 2])

    def test_without_reports_nobody_must_have_moved(self):
        self.assertEqual([least_move(heard_of(row_of(4), []), x) for x in range(4)], [0, 0, 0, 0])

    def test_of_a_house_to_itself(self):
        heard = heard_of(row_of(4), [(1, 1)])
        self.assertEqual([least_move(heard, x) for x in range(4)], [0, 0, 0, 0])

    def test_one_house(self):
        for told in [[], [(0, 0)]]:
            self.assertEqual(least_move(heard_of([], told), 0), 0)

    def test_kind(self):
        for told in [[], [(0, 1)]]:
            self.assertIs(type(least_move(heard_of(row_of(2), told), 0)), int)


class Laziest(unittest.TestCase):
    def test_each_as_near_to_the_old_house_as_may_be(self):
        self.assertEqual(laziest(heard_of(row_of(5), [(0, 4)])), [4, 3, 2, 3, 4])
        self.assertEqual(laziest(heard_of(row_of(6), [(0, 3), (1, 4)])), [3, 4, 3, 3, 4, 5])
        self.assertEqual(laziest(heard_of(star_of(4), [(1, 2)])), [0, 2, 2, 3])

    def test_a_turned_row(self):
        self.assertEqual(laziest(heard_of(row_of(4), [(0, 3), (3, 0)])), [3, 2, 1, 0])
        self.assertEqual(laziest(heard_of(row_of(5), [(0, 4), (4, 0)])), [4, 3, 2, 1, 0])

    def test_without_reports_all_stay(self):
        self.assertEqual(laziest(heard_of(star_of(4), [])), [0, 1, 2, 3])

    def test_one_house(self):
        for told in [[], [(0, 0)]]:
            self.assertEqual(laziest(heard_of([], told)), [0])


class Nearest(unittest.TestCase):
    def test_each_as_near_to_t_as_may_be(self):
        heard = heard_of(row_of(5), [(0, 4)])
        self.assertEqual(nearest(heard, 0), [4, 3, 2, 1, 0])
        self.assertEqual(nearest(heard, 2), [4, 3, 2, 2, 2])
        self.assertEqual(nearest(heard, 4), [4, 4, 4, 4, 4])
        heard.tell(3, 3)
        self.assertEqual(nearest(heard, 0), [4, 3, 2, 3, 2])

    def test_without_reports_all_live_in_t(self):
        for t in range(4):
            self.assertEqual(nearest(heard_of(row_of(4), []), t), [t] * 4)

    def test_one_house(self):
        for told in [[], [(0, 0)]]:
            self.assertEqual(nearest(heard_of([], told), 0), [0])


class Askers(Asking):
    def test_no_house(self):
        for roads in [[], row_of(3), star_of(4)]:
            many = len(roads) + 1
            for told in [[], [(0, many - 1)]]:
                heard = heard_of(roads, told)
                for ask in [least_move, nearest]:
                    for what in [many, -1, -many, 10 ** 60]:
                        self.refused(NoHouse, what, ask, heard, what)
                self.assertEqual(heard, heard_of(roads, told))

    def test_told_lists_are_the_askers_own(self):
        heard = heard_of(row_of(4), [(0, 2)])
        for ask in [laziest, lambda heard: nearest(heard, 1)]:
            told = ask(heard)
            self.assertIs(type(told), list)
            again = ask(heard)
            self.assertIsNot(told, again)
            again.clear()
            self.assertEqual(ask(heard), told)
            kept = list(told)
            heard.tell(3, 3)
            self.assertEqual(told, kept)
            heard.take_back(3, 3)

    def test_asking_changes_nothing(self):
        heard = heard_of(row_of(4), [(0, 2), (3, 3)])
        least_move(heard, 0)
        laziest(heard)
        nearest(heard, 2)
        self.assertEqual(heard, heard_of(row_of(4), [(0, 2), (3, 3)]))


class GreaterVillages(unittest.TestCase):
    def cases(self):
        chance = random.Random(21)
        for many in [9, 20, 40]:
            for roads in [row_of(many), star_of(many), grown(chance, many), grown(chance, many)]:
                for reports in [0, 1, 2, 5, many]:
                    tale = some_tale(chance, roads)
                    yield roads, [(x, tale[x]) for x in chance.sample(range(many), reports)]

    def hold_tale(self, far, told, tale):
        houses = range(len(far))
        self.assertTrue(all(far[tale[x]][tale[z]] <= far[x][z] for x in houses for z in houses))
        self.assertTrue(all(tale[x] == y for x, y in told))

    def test_held_against_where_each_may_live(self):
        for roads, told in self.cases():
            far = apart_by_hand(roads)
            houses = range(len(far))
            homes = homes_in_some_tale(roads, told)
            heard = heard_of(roads, told)
            lazy = laziest(heard)
            self.assertEqual([(far[x][p], p) for x, p in enumerate(lazy)],
                             [min((far[x][p], p) for p in homes[x]) for x in houses])
            self.assertEqual([least_move(heard, x) for x in houses], [far[x][lazy[x]] for x in houses])
            self.hold_tale(far, told, lazy)
            for t in range(0, len(far), 7):
                tale = nearest(heard, t)
                self.assertEqual([(far[t][p], p) for p in tale],
                                 [min((far[t][p], p) for p in homes[x]) for x in houses])
                self.hold_tale(far, told, tale)

    def test_quick_enough(self):
        for roads in [row_of(40), star_of(40)]:
            for told in [[(x, x) for x in range(40)], [(x, 20) for x in range(40)]]:
                heard = heard_of(roads, told)
                for ask in [laziest, lambda heard: nearest(heard, 39), lambda heard: least_move(heard, 39)]:
                    self.assertLess(seconds(lambda: ask(heard)), 0.01)


if __name__ == "__main__":
    unittest.main()
