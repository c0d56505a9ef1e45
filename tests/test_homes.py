"""[11], [12], and as far as they reach [2], [3] and [4]: at home."""

import random
import unittest
from itertools import combinations

from asking import Asking, heard_of, seconds
from by_hand import apart_by_hand, grown, homes_in_some_tale, row_of, some_tale, star_of
from movedays.errors import NoHouse
from movedays.homes import changed, home_paper, may_be_home, moved_paper, surely_home


class AtHome(unittest.TestCase):
    def test_who_may_be(self):
        self.assertEqual(may_be_home(heard_of(row_of(5), [(0, 4)])), [2, 3, 4])
        self.assertEqual(may_be_home(heard_of(row_of(5), [(0, 3)])), [2, 3, 4])
        self.assertEqual(may_be_home(heard_of(star_of(5), [(1, 2)])), [0, 2, 3, 4])
        self.assertEqual(may_be_home(heard_of(row_of(4), [(0, 3), (3, 0)])), [])

    def test_who_surely_is(self):
        heard = heard_of(row_of(5), [(0, 4)])
        self.assertEqual(surely_home(heard), [])
        heard.tell(3, 3)
        self.assertEqual(surely_home(heard), [3])
        heard.take_back(0, 4)
        heard.tell(0, 0)
        self.assertEqual(surely_home(heard), [0, 1, 2, 3])
        self.assertEqual(surely_home(heard_of(row_of(4), [(0, 3), (3, 0)])), [])

    def test_surely_though_not_reported(self):
        self.assertEqual(surely_home(heard_of(row_of(5), [(0, 4), (4, 0)])), [2])
        self.assertEqual(surely_home(heard_of(star_of(4), [(1, 2), (2, 3), (3, 1)])), [0])

    def test_without_reports_all_may_and_nobody_surely_is(self):
        heard = heard_of(row_of(4), [])
        self.assertEqual(may_be_home(heard), [0, 1, 2, 3])
        self.assertEqual(surely_home(heard), [])
        self.assertIsNone(changed(heard))

    def test_one_house(self):
        for told in [[], [(0, 0)]]:
            heard = heard_of([], told)
            self.assertEqual(may_be_home(heard), [0])
            self.assertEqual(surely_home(heard), [0])
            self.assertIsNone(changed(heard))


class Changed(unittest.TestCase):
    def test_two_houses(self):
        self.assertEqual(changed(heard_of([(1, 0)], [(0, 1), (1, 0)])), (0, 1))
        self.assertIsNone(changed(heard_of([(1, 0)], [(0, 1)])))

    def test_though_not_reported(self):
        self.assertEqual(changed(heard_of(row_of(4), [(0, 3), (3, 0)])), (1, 2))
        roads = [(4, 2), (2, 0), (0, 5), (5, 1), (2, 3)]
        self.assertEqual(changed(heard_of(roads, [(4, 5), (5, 4)])), (0, 2))

    def test_none_where_somebody_may_be_at_home(self):
        self.assertIsNone(changed(heard_of(row_of(4), [(0, 3)])))
        self.assertIsNone(changed(heard_of(row_of(5), [(0, 4), (4, 0)])))
        self.assertIsNone(changed(heard_of(star_of(4), [(1, 2), (2, 1)])))

    def test_the_lesser_one_ahead_as_a_tuple(self):
        for roads in [[(3, 1), (0, 3), (2, 0)], [(1, 3), (3, 0), (0, 2)]]:
            told = changed(heard_of(roads, [(1, 2), (2, 1)]))
            self.assertEqual(told, (0, 3))
            self.assertIs(type(told), tuple)


class HomePapers(unittest.TestCase):
    def test_one_report(self):
        heard = heard_of(row_of(5), [(0, 4), (3, 3)])
        self.assertEqual([home_paper(heard, c) for c in range(5)], [None, None, None, [(3, 3)], None])

    def test_two_reports(self):
        heard = heard_of(row_of(5), [(4, 0), (0, 4)])
        self.assertEqual([home_paper(heard, c) for c in range(5)], [None, None, [(0, 4), (4, 0)], None, None])

    def test_of_as_short_ones_the_least(self):
        heard = heard_of(row_of(5), [(3, 1), (1, 3)])
        self.assertEqual(home_paper(heard, 2), [(1, 3), (3, 1)])
        heard.tell(0, 4)
        self.assertEqual(home_paper(heard, 2), [(0, 4), (3, 1)])
        heard.tell(4, 0)
        self.assertEqual(home_paper(heard, 2), [(0, 4), (3, 1)])
        heard = heard_of(star_of(4), [(3, 1), (2, 3), (1, 2)])
        self.assertEqual(home_paper(heard, 0), [(1, 2), (2, 3)])

    def test_a_shorter_one_goes_ahead_of_a_lesser_one(self):
        heard = heard_of(row_of(5), [(0, 4), (2, 2), (4, 0)])
        self.assertEqual(home_paper(heard, 2), [(2, 2)])

    def test_by_numbers(self):
        heard = heard_of(star_of(12), [(10, 1), (9, 2), (8, 3)])
        self.assertEqual(home_paper(heard, 0), [(8, 3), (9, 2)])
        heard.take_back(8, 3)
        self.assertEqual(home_paper(heard, 0), [(9, 2), (10, 1)])

    def test_none_where_one_is_not_surely_at_home(self):
        for told in [[], [(0, 4)], [(0, 2), (1, 1)]]:
            self.assertIsNone(home_paper(heard_of(row_of(5), told), 3))
        for c in range(4):
            self.assertIsNone(home_paper(heard_of(row_of(4), [(0, 3), (3, 0)]), c))

    def test_one_house_asks_for_no_report(self):
        for told in [[], [(0, 0)]]:
            self.assertEqual(home_paper(heard_of([], told), 0), [])

    def test_kinds(self):
        paper = home_paper(heard_of(row_of(5), [(0, 4), (4, 0)]), 2)
        self.assertIs(type(paper), list)
        self.assertEqual([type(report) for report in paper], [tuple, tuple])


class MovedPapers(unittest.TestCase):
    def test_one_report(self):
        heard = heard_of(row_of(5), [(0, 4)])
        self.assertEqual([moved_paper(heard, c) for c in range(5)], [(0, 4), (0, 4), None, None, None])
        self.assertIs(type(moved_paper(heard, 1)), tuple)

    def test_by_which_one_has_moved_farthest(self):
        heard = heard_of(row_of(6), [(0, 3), (1, 4)])
        self.assertEqual([moved_paper(heard, c) for c in range(6)], [(0, 3), (1, 4), (1, 4), None, None, None])

    def test_of_such_the_least(self):
        for told in [[(0, 4), (1, 5)], [(1, 5), (0, 4)]]:
            heard = heard_of(row_of(6), told)
            self.assertEqual([moved_paper(heard, c) for c in range(6)], [(0, 4), (1, 5), (1, 5), None, None, None])
        heard = heard_of(star_of(12), [(10, 1), (9, 1)])
        self.assertEqual(moved_paper(heard, 9), (9, 1))
        self.assertEqual(moved_paper(heard, 10), (10, 1))
        heard = heard_of(row_of(12), [(10, 3), (9, 2)])
        self.assertEqual([moved_paper(heard, c) for c in [11, 10, 9, 8]], [(9, 2)] * 4)

    def test_none_where_one_may_be_at_home(self):
        heard = heard_of(row_of(5), [(0, 4), (4, 0)])
        self.assertEqual([moved_paper(heard, c) for c in range(5)], [(0, 4), (0, 4), None, (4, 0), (4, 0)])
        for c in range(4):
            self.assertIsNone(moved_paper(heard_of(row_of(4), []), c))

    def test_one_house(self):
        for told in [[], [(0, 0)]]:
            self.assertIsNone(moved_paper(heard_of([], told), 0))


class Askers(Asking):
    def test_no_house(self):
        for roads in [[], row_of(3), star_of(4)]:
            many = len(roads) + 1
            for told in [[], [(0, 0)], [(0, many - 1)]]:
                heard = heard_of(roads, told)
                for ask in [home_paper, moved_paper]:
                    for what in [many, -1, -many, 10 ** 60]:
                        self.refused(NoHouse, what, ask, heard, what)
                self.assertEqual(heard, heard_of(roads, told))

    def test_told_lists_are_the_askers_own(self):
        heard = heard_of(row_of(5), [(0, 4), (4, 0), (2, 2)])
        heard.take_back(2, 2)
        for ask in [may_be_home, surely_home, lambda heard: home_paper(heard, 2)]:
            told = ask(heard)
            self.assertIs(type(told), list)
            again = ask(heard)
            again.clear()
            self.assertEqual(ask(heard), told)
            self.assertNotEqual(told, [])
            kept = list(told)
            heard.take_back(0, 4)
            heard.tell(0, 3)
            self.assertEqual(told, kept)
            heard.take_back(0, 3)
            heard.tell(0, 4)
        self.assertEqual(heard.reports(), [(0, 4), (4, 0)])

    def test_asking_changes_nothing(self):
        heard = heard_of(row_of(4), [(0, 3), (3, 0)])
        for ask in [may_be_home, surely_home, changed]:
            ask(heard)
        for c in range(4):
            home_paper(heard, c)
            moved_paper(heard, c)
        self.assertEqual(heard, heard_of(row_of(4), [(0, 3), (3, 0)]))


class GreaterVillages(unittest.TestCase):
    """Up to the sizes in use, held against where each may live."""

    def fold(self, chance, roads):
        """A tale in which all live in two next doors, who have changed houses."""
        far = apart_by_hand(roads)
        u, v = chance.choice(roads)
        return [(v, u)[far[x][u] % 2] for x in range(len(far))]

    def cases(self):
        chance = random.Random(22)
        for many in [9, 20, 40]:
            turned = list(range(many))[::-1]
            for roads in [row_of(many), star_of(many), grown(chance, many), grown(chance, many)]:
                tales = [some_tale(chance, roads), self.fold(chance, roads), list(range(many))]
                for tale in tales + ([turned] if roads == row_of(many) else []):
                    for reports in [1, 2, 4, many]:
                        yield roads, [(x, tale[x]) for x in chance.sample(range(many), reports)]

    def test_at_home(self):
        outcomes = set()
        for roads, told in self.cases():
            homes = homes_in_some_tale(roads, told)
            heard = heard_of(roads, told)
            may = [c for c, some in enumerate(homes) if c in some]
            sure = [c for c, some in enumerate(homes) if some == {c}]
            pairs = [(x, y) for x, y in heard.village().roads() if homes[x] == {y} and homes[y] == {x}]
            self.assertEqual(may_be_home(heard), may)
            self.assertEqual(surely_home(heard), sure)
            self.assertEqual([changed(heard)], [None] if may else pairs)
            outcomes.add((may != [], sure != []))
        self.assertEqual(outcomes, {(True, True), (True, False), (False, False)})

    def let(self, far, c, paper):
        return {p for p in range(len(far)) if all(far[p][y] <= far[c][x] for x, y in paper)}

    def test_home_papers(self):
        lengths = set()
        for roads, told in self.cases():
            far = apart_by_hand(roads)
            heard = heard_of(roads, told)
            told = sorted(told)
            for c in range(0, len(far), 3):
                alone = {report: self.let(far, c, [report]) for report in told}
                papers = [[report] for report in told if alone[report] == {c}]
                papers += [[one, other] for one, other in combinations(told, 2) if alone[one] & alone[other] == {c}]
                paper = papers[0] if self.let(far, c, told) == {c} else None
                self.assertEqual(home_paper(heard, c), paper)
                lengths.add(None if paper is None else len(paper))
        self.assertEqual(lengths, {None, 1, 2})

    def test_moved_papers(self):
        for roads, told in self.cases():
            far = apart_by_hand(roads)
            heard = heard_of(roads, told)
            for c in range(0, len(far), 3):
                ways = [(-min(far[c][p] for p in self.let(far, c, [report])), report) for report in sorted(told)]
                self.assertEqual(moved_paper(heard, c), min(ways)[1] if min(ways)[0] < 0 else None)

    def test_quick_enough(self):
        for roads in [row_of(40), star_of(40)]:
            for told in [[(x, x) for x in range(40)], [(x, 20) for x in range(40)]]:
                heard = heard_of(roads, told)
                for ask in [may_be_home, surely_home, changed]:
                    self.assertLess(seconds(lambda: ask(heard)), 0.01)
                for ask in [home_paper, moved_paper]:
                    self.assertLess(seconds(lambda: ask(heard, 39)), 0.01)


if __name__ == "__main__":
    unittest.main()
