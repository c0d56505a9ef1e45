"""[16], and as far as it reaches [2], [3] and [11]: rounds of reports."""

import random
import unittest
from itertools import combinations, permutations

from asking import Asking, heard_of, seconds
from by_hand import all_tales, apart_by_hand, fitting, grown, row_of, some_tale, star_of, trees
from movedays.errors import Clash
from movedays.homes import changed, surely_home
from movedays.rounds import rounds


def rounds_by_rows(reports):
    """Every row of houses, its least one ahead, of which each is reported to live in the next one."""
    houses = sorted({x for x, _ in reports})
    rows = [list(row) for many in range(1, len(houses) + 1) for row in permutations(houses, many)]
    return [row for row in sorted(rows) if row[0] == min(row) and is_round(row, reports)]


def is_round(row, reports):
    return all(report in reports for report in zip(row, row[1:] + row[:1]))


def rounds_of_a_tale(tale, some):
    """The rounds where just some are reported to live where the tale says, by going on house by house."""
    told = []
    for x in sorted(some):
        row = [x]
        while row[-1] in some and len(row) <= len(tale):
            row.append(tale[row[-1]])
            if row[-1] == x:
                told.append(row[:-1])
                break
    return [row for row in told if row[0] == min(row)]


class Rounds(Asking):
    def test_without_reports(self):
        for roads in [[], [(0, 1)], row_of(5), star_of(40)]:
            self.assertEqual(rounds(heard_of(roads, [])), [])

    def test_a_house_to_itself(self):
        self.assertEqual(rounds(heard_of([], [(0, 0)])), [[0]])
        self.assertEqual(rounds(heard_of(row_of(4), [(2, 2)])), [[2]])
        self.assertEqual(rounds(heard_of(row_of(4), [(3, 3), (0, 0)])), [[0], [3]])

    def test_two_in_each_others_house(self):
        self.assertEqual(rounds(heard_of([(0, 1)], [(1, 0), (0, 1)])), [[0, 1]])
        self.assertEqual(rounds(heard_of(row_of(4), [(3, 0), (0, 3)])), [[0, 3]])
        self.assertEqual(rounds(heard_of(row_of(4), [(2, 1), (1, 2)])), [[1, 2]])

    def test_longer_ones_go_as_the_reports_say(self):
        self.assertEqual(rounds(heard_of(star_of(4), [(1, 2), (2, 3), (3, 1)])), [[1, 2, 3]])
        self.assertEqual(rounds(heard_of(star_of(4), [(1, 3), (3, 2), (2, 1)])), [[1, 3, 2]])
        self.assertEqual(rounds(heard_of(star_of(5), [(4, 2), (3, 4), (1, 3), (2, 1)])), [[1, 3, 4, 2]])

    def test_several_at_once_in_the_order_of_their_first_houses(self):
        told = [(6, 2), (2, 6), (5, 1), (3, 5), (1, 3), (4, 4), (0, 0)]
        self.assertEqual(rounds(heard_of(star_of(7), told)), [[0], [1, 3, 5], [2, 6], [4]])
        told = [(11, 2), (2, 11), (10, 9), (9, 10)]
        self.assertEqual(rounds(heard_of(star_of(12), told)), [[2, 11], [9, 10]])

    def test_rows_that_lead_nowhere(self):
        self.assertEqual(rounds(heard_of(row_of(4), [(0, 1)])), [])
        self.assertEqual(rounds(heard_of(star_of(5), [(1, 2), (2, 3), (3, 4)])), [])
        self.assertEqual(rounds(heard_of(star_of(5), [(4, 3), (3, 2), (2, 1)])), [])
        self.assertEqual(rounds(heard_of(star_of(5), [(4, 0), (3, 0), (0, 2)])), [])

    def test_rows_that_lead_into_a_round(self):
        self.assertEqual(rounds(heard_of(row_of(3), [(0, 1), (1, 1)])), [[1]])
        self.assertEqual(rounds(heard_of(star_of(6), [(1, 2), (2, 3), (3, 4), (4, 3), (5, 1)])), [[3, 4]])
        self.assertEqual(rounds(heard_of(star_of(6), [(5, 4), (4, 3), (3, 1), (1, 2), (2, 1)])), [[1, 2]])
        told = [(1, 4), (4, 3), (3, 5), (5, 4), (2, 5)]
        self.assertEqual(rounds(heard_of(star_of(6), told)), [[3, 5, 4]])

    def test_a_round_is_opened_by_a_report_taken_back(self):
        heard = heard_of(star_of(4), [(1, 2), (2, 3), (3, 1)])
        heard.take_back(2, 3)
        self.assertEqual(rounds(heard), [])
        heard.tell(2, 1)
        self.assertEqual(rounds(heard), [[1, 2]])

    def test_forty_houses(self):
        turned = [(x, x % 39 + 1) for x in range(1, 40)]
        self.assertEqual(rounds(heard_of(star_of(40), turned)), [list(range(1, 40))])
        back = [(y, x) for x, y in turned] + [(0, 0)]
        self.assertEqual(rounds(heard_of(star_of(40), back)), [[0], [1] + list(range(39, 1, -1))])
        mirror = [(x, 39 - x) for x in range(40)]
        self.assertEqual(rounds(heard_of(row_of(40), mirror)), [[x, 39 - x] for x in range(20)])
        self.assertEqual(rounds(heard_of(row_of(40), [(x, x) for x in range(40)])), [[x] for x in range(40)])

    def test_kinds(self):
        told = rounds(heard_of(row_of(3), [(0, 2), (2, 0), (1, 1)]))
        self.assertIs(type(told), list)
        for row in told:
            self.assertIs(type(row), list)
            self.assertEqual({type(x) for x in row}, {int})
        self.assertIs(type(rounds(heard_of([], []))), list)

    def test_told_lists_are_the_askers_own_and_the_reports_stay(self):
        heard = heard_of(row_of(3), [(0, 2), (2, 0), (1, 1)])
        told = rounds(heard)
        told[0].append(9)
        told[1].clear()
        told.append([7])
        self.assertEqual(rounds(heard), [[0, 2], [1]])
        self.assertEqual(heard, heard_of(row_of(3), [(0, 2), (2, 0), (1, 1)]))
        early = rounds(heard)
        heard.take_back(2, 0)
        self.assertEqual(early, [[0, 2], [1]])
        self.assertEqual(rounds(heard), [[1]])

    def test_a_report_that_clashes_changes_no_round(self):
        heard = heard_of(row_of(3), [(0, 1), (1, 0)])
        self.refused(Clash, ((2, 2), (1, 0)), heard.tell, 2, 2)
        self.assertEqual(rounds(heard), [[0, 1]])

    def test_quick_enough(self):
        turned = [(x, x % 39 + 1) for x in range(1, 40)] + [(0, 0)]
        led = [(0, 0)] + [(x, max(1, x - 1)) for x in range(2, 40)] + [(1, 2)]
        for told in [turned, [(y, x) for x, y in turned], led]:
            heard = heard_of(star_of(40), told)
            self.assertLess(seconds(lambda: rounds(heard)), 0.005)


class Middles(Asking):
    """The middle of a round is at home in every tale that fits; or, of two, they have changed houses."""

    def hold_middles(self, heard):
        for row in rounds(heard):
            middle = heard.village().middle(row)
            if len(middle) == 1:
                self.assertIn(middle[0], surely_home(heard))
            else:
                self.assertEqual(changed(heard), middle)

    def test_one_house(self):
        heard = heard_of(row_of(3), [(0, 2), (2, 0)])
        self.assertEqual(heard.village().middle([0, 2]), (1,))
        self.assertEqual(surely_home(heard), [1])
        self.assertIsNone(changed(heard))

    def test_one_house_of_a_round_of_three(self):
        heard = heard_of(star_of(4) + [(3, 4)], [(1, 2), (2, 3), (3, 1)])
        self.assertEqual(heard.village().middle([1, 2, 3]), (0,))
        self.assertEqual(surely_home(heard), [0])

    def test_two_next_doors(self):
        heard = heard_of(row_of(4), [(0, 3), (3, 0)])
        self.assertEqual(heard.village().middle([0, 3]), (1, 2))
        self.assertEqual(surely_home(heard), [])
        self.assertEqual(changed(heard), (1, 2))
        self.assertEqual(changed(heard_of([(0, 1)], [(0, 1), (1, 0)])), (0, 1))

    def test_small_villages_all_reports_that_fit(self):
        for many in range(1, 5):
            for roads in trees(many):
                self.hold_all_reports(roads, range(many))

    def hold_all_reports(self, roads, houses):
        tales = all_tales(roads)
        told = {tuple((x, tale[x]) for x in some) for tale in tales for some in subsets(houses)}
        for reports in sorted(told):
            heard = heard_of(roads, reports)
            self.assertEqual(rounds(heard), rounds_by_rows(reports))
            self.hold_middles(heard)
            left = fitting(tales, reports)
            for row in rounds(heard):
                middle = heard.village().middle(row)
                # Of one the house itself, of two each the other's.
                self.assertTrue(all([tale[c] for c in middle] == list(middle)[::-1] for tale in left))

    def test_greater_villages_reports_of_a_tale(self):
        chance = random.Random(16)
        longest = 0
        for many in [8, 13, 20, 40] * 30:
            roads = chance.choice([grown(chance, many), star_of(many), row_of(many)])
            tale = chance.choice([some_tale, swapped])(chance, roads)
            some = chance.sample(range(many), chance.choice([many, chance.randrange(many + 1)]))
            heard = heard_of(roads, [(x, tale[x]) for x in some])
            self.assertEqual(rounds(heard), rounds_of_a_tale(tale, some))
            self.hold_middles(heard)
            longest = max([longest] + [len(row) for row in rounds(heard)])
        # Otherwise the villages above would say little.
        self.assertGreater(longest, 9)


def subsets(houses):
    return [some for many in range(len(houses) + 1) for some in combinations(houses, many)]


def swapped(chance, roads):
    """A tale in which many change houses: the leaves of each house among one another."""
    far = apart_by_hand(roads)
    houses = range(len(far))
    tale = list(houses)
    for door in houses:
        leaves = [x for x in houses if far[door][x] == 1 and far[x].count(1) == 1]
        for x, y in zip(leaves, chance.sample(leaves, len(leaves))):
            tale[x] = y
    return tale


if __name__ == "__main__":
    unittest.main()
