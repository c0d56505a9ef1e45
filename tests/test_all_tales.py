"""[1], [4], [7] to [12]: small villages, held against all tales that fit, one by one."""

import random
import unittest
from itertools import combinations

from by_hand import all_tales, apart_by_hand, fitting, trees
from movedays.errors import Clash
from movedays.homes import changed, home_paper, may_be_home, moved_paper, surely_home
from movedays.moves import laziest, least_move, nearest
from movedays.reports import Reports
from movedays.villages import Village

SHAPES = [
    [(0, 1), (1, 2), (2, 3), (3, 4)],
    [(3, 0), (0, 4), (2, 4), (1, 3)],
    [(0, 1), (0, 2), (0, 3), (0, 4)],
    [(2, 3), (2, 0), (4, 2), (1, 2)],
    [(0, 1), (1, 2), (1, 3), (3, 4)],
    [(4, 0), (0, 2), (2, 1), (3, 2)],
]


class AllTales(unittest.TestCase):
    def hold(self, roads, tales, reports):
        """Tell the reports one by one, and hold all that is told against the tales."""
        heard = Reports(Village(roads))
        kept = []
        for report in reports:
            against = [old for old in sorted(kept) if not fitting(tales, [old, report])]
            # Reports fit together just where each two do.
            self.assertEqual(fitting(tales, kept + [report]) == [], against != [])
            if against:
                with self.assertRaises(Clash) as caught:
                    heard.tell(*report)
                self.assertEqual(caught.exception.what, (report, against[0]))
            else:
                heard.tell(*report)
                kept = sorted(set(kept + [report]))
            self.assertEqual(heard.reports(), kept)
        left = fitting(tales, kept)
        far = apart_by_hand(roads)
        self.hold_homes(heard, left)
        self.hold_near(far, heard, left)
        self.hold_moves(far, heard, left)
        self.hold_at_home(far, heard, left)
        self.hold_papers(far, heard, tales)
        self.assertEqual(heard.reports(), kept)
        return heard, left

    def hold_homes(self, heard, left):
        for x in range(len(left[0])):
            homes = {tale[x] for tale in left}
            self.assertEqual(heard.may_live(x), sorted(homes))
            for p in range(len(left[0])):
                self.assertIs(heard.may([(x, p)]), p in homes)

    def hold_near(self, far, heard, left):
        houses = range(len(far))
        for x in houses:
            for z in houses:
                ways = {far[tale[x]][tale[z]] for tale in left}
                self.assertEqual(heard.near(x, z), (min(ways), max(ways)))
                self.assertEqual(len(ways), max(ways) - min(ways) + 1)

    def hold_moves(self, far, heard, left):
        houses = range(len(far))
        least = [min(far[x][tale[x]] for tale in left) for x in houses]
        self.assertEqual([least_move(heard, x) for x in houses], least)
        # There is just one such tale.
        lazy = [tale for tale in left if [far[x][tale[x]] for x in houses] == least]
        self.assertEqual([laziest(heard)], lazy)
        for t in houses:
            least = [min(far[t][tale[x]] for tale in left) for x in houses]
            near = [tale for tale in left if [far[t][p] for p in tale] == least]
            self.assertEqual([nearest(heard, t)], near)

    def hold_at_home(self, far, heard, left):
        houses = range(len(far))
        may = [c for c in houses if any(tale[c] == c for tale in left)]
        self.assertEqual(may_be_home(heard), may)
        self.assertEqual([c for c, p in enumerate(laziest(heard)) if p == c], may)
        self.assertEqual(surely_home(heard), [c for c in houses if all(tale[c] == c for tale in left)])
        if may:
            self.assertIsNone(changed(heard))
        else:
            doors = [(x, y) for x in houses for y in houses if x < y and far[x][y] == 1]
            pairs = [(x, y) for x, y in doors if all((tale[x], tale[y]) == (y, x) for tale in left)]
            self.assertEqual([changed(heard)], pairs)

    def hold_papers(self, far, heard, tales):
        told = heard.reports()
        papers = [paper for many in range(len(told) + 1) for paper in combinations(told, many)]
        by_paper = [(list(paper), fitting(tales, paper)) for paper in papers]
        for c in range(len(far)):
            home = [paper for paper, left in by_paper if all(tale[c] == c for tale in left)]
            self.assertEqual(home_paper(heard, c), home[0] if home else None)
            self.assertTrue(not home or len(home[0]) <= 2)
            moved = [(min(far[c][tale[c]] for tale in left), paper) for paper, left in by_paper if len(paper) == 1]
            most = max([many for many, _ in moved], default=0)
            self.assertEqual(most, least_move(heard, c))
            farthest = [paper[0] for many, paper in moved if many == most]
            self.assertEqual(moved_paper(heard, c), farthest[0] if most else None)

    def hold_two_choices(self, heard, left):
        houses = range(len(left[0]))
        for x in houses:
            for z in houses:
                both = {(tale[x], tale[z]) for tale in left}
                for p in houses:
                    for q in houses:
                        self.assertIs(heard.may([(x, p), (z, q)]), (p, q) in both)

    def hold_some_choices(self, chance, heard, left):
        many = len(left[0])
        for _ in range(12):
            choices = [(chance.randrange(many), chance.randrange(many)) for _ in range(chance.randrange(6))]
            self.assertIs(heard.may(choices), fitting(left, choices) != [])
            tale = chance.choice(left)
            choices = [(x, tale[x]) for x in chance.choices(range(many), k=chance.randrange(6))]
            self.assertIs(heard.may(choices), True)
            x = chance.randrange(many)
            choices.append((x, chance.choice(heard.may_live(x))))
            self.assertIs(heard.may(choices), fitting(left, choices) != [])

    def test_up_to_four_houses_all_two_reports(self):
        for many in range(1, 5):
            pairs = [(x, y) for x in range(many) for y in range(many)]
            for roads in trees(many):
                tales = all_tales(roads)
                for two in [(), *[(pair,) for pair in pairs], *combinations(pairs, 2)]:
                    self.hold(roads, tales, two)

    def test_up_to_four_houses_all_two_choices(self):
        for many in range(1, 5):
            pairs = [(x, y) for x in range(many) for y in range(many)]
            for roads in trees(many):
                tales = all_tales(roads)
                for told in [[]] + [[pair] for pair in pairs]:
                    self.hold_two_choices(*self.hold(roads, tales, told))

    def test_five_houses_each_village(self):
        chance = random.Random(3)
        for roads in trees(5):
            tales = all_tales(roads)
            self.hold(roads, tales, [])
            for many in [1, 2, 3, 5]:
                told = [(chance.randrange(5), chance.randrange(5)) for _ in range(many)]
                self.hold_some_choices(chance, *self.hold(roads, tales, told))

    def test_five_houses_each_shape_all_two_reports(self):
        pairs = [(x, y) for x in range(5) for y in range(5)]
        for roads in SHAPES:
            tales = all_tales(roads)
            for two in combinations(pairs, 2):
                self.hold(roads, tales, two[::-1])

    def test_five_houses_reports_of_one_tale(self):
        chance = random.Random(4)
        for roads in SHAPES:
            tales = all_tales(roads)
            for _ in range(25):
                tale = chance.choice(tales)
                told = [(x, tale[x]) for x in chance.sample(range(5), chance.randrange(6))]
                heard, left = self.hold(roads, tales, told)
                self.assertEqual(heard.reports(), sorted(told))
                self.hold_two_choices(heard, left)


if __name__ == "__main__":
    unittest.main()
