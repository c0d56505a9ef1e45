"""[7], [8], [9], and as far as they reach [2] and [3]: reports."""

import random
import unittest

from asking import Asking, heard_of, seconds
from by_hand import apart_by_hand, grown, homes_in_some_tale, row_of, some_tale, star_of
from movedays.errors import Clash, NoHouse, NoReport
from movedays.reports import Reports
from movedays.villages import Village


class Telling(Asking):
    def test_the_village(self):
        village = Village([(2, 1), (1, 0)])
        self.assertEqual(Reports(village).village(), village)
        self.assertEqual(village.roads(), [(0, 1), (1, 2)])

    def test_nothing_is_heard_at_first(self):
        self.assertEqual(Reports(Village([])).reports(), [])
        self.assertEqual(Reports(Village(row_of(5))).reports(), [])

    def test_reports_are_told_in_order(self):
        heard = heard_of(row_of(4), [(3, 1), (0, 2), (2, 1)])
        self.assertEqual(heard.reports(), [(0, 2), (2, 1), (3, 1)])
        heard = heard_of(star_of(12), [(10, 1), (9, 2), (0, 0), (1, 10)])
        self.assertEqual(heard.reports(), [(0, 0), (1, 10), (9, 2), (10, 1)])

    def test_telling_tells_nothing(self):
        heard = Reports(Village(row_of(3)))
        self.assertIsNone(heard.tell(0, 1))
        self.assertIsNone(heard.tell(0, 1))
        self.assertIsNone(heard.take_back(0, 1))

    def test_a_report_that_was_heard_already(self):
        heard = heard_of(row_of(4), [(0, 2), (3, 1)])
        heard.tell(0, 2)
        heard.tell(3, 1)
        self.assertEqual(heard.reports(), [(0, 2), (3, 1)])
        heard.take_back(0, 2)
        self.assertEqual(heard.reports(), [(3, 1)])

    def test_a_report_of_a_house_to_itself(self):
        heard = heard_of(row_of(3), [(1, 1)])
        self.assertEqual(heard.reports(), [(1, 1)])
        self.assertEqual(heard.may_live(1), [1])
        self.assertEqual(heard.may_live(0), [0, 1, 2])

    def test_several_into_one_house(self):
        heard = heard_of(row_of(3), [(0, 2), (1, 2), (2, 2)])
        self.assertEqual(heard.reports(), [(0, 2), (1, 2), (2, 2)])

    def test_one_house(self):
        heard = heard_of([], [(0, 0)])
        self.assertEqual(heard.reports(), [(0, 0)])
        self.assertEqual(heard.may_live(0), [0])
        self.assertEqual(heard.near(0, 0), (0, 0))

    def test_a_report_taken_back(self):
        heard = heard_of(row_of(4), [(0, 2), (3, 1), (1, 1)])
        heard.take_back(3, 1)
        self.assertEqual(heard.reports(), [(0, 2), (1, 1)])
        heard.tell(3, 2)
        heard.take_back(0, 2)
        heard.take_back(1, 1)
        self.assertEqual(heard.reports(), [(3, 2)])
        heard.take_back(3, 2)
        self.assertEqual(heard.reports(), [])
        self.assertEqual(heard.may_live(3), [0, 1, 2, 3])

    def test_told_reports_are_the_askers_own(self):
        heard = heard_of(row_of(3), [(0, 1)])
        told = heard.reports()
        told.append((1, 1))
        self.assertEqual(heard.reports(), [(0, 1)])
        before = heard.reports()
        heard.tell(1, 1)
        heard.take_back(0, 1)
        self.assertEqual(before, [(0, 1)])

    def test_reports_of_one_village_do_not_share(self):
        village = Village(row_of(3))
        one = Reports(village)
        other = Reports(village)
        one.tell(0, 1)
        self.assertEqual(other.reports(), [])
        self.assertEqual(village, Village(row_of(3)))


class Refusals(Asking):
    def test_no_house(self):
        heard = heard_of(row_of(3), [(0, 1)])
        for ask in [heard.tell, heard.take_back, heard.near]:
            self.refused(NoHouse, 3, ask, 3, 0)
            self.refused(NoHouse, 3, ask, 0, 3)
            self.refused(NoHouse, -1, ask, -1, 0)
            self.refused(NoHouse, -1, ask, 0, -1)
            self.refused(NoHouse, 9, ask, 9, -1)
            self.refused(NoHouse, -1, ask, -1, 9)
        self.refused(NoHouse, 3, heard.may_live, 3)
        self.refused(NoHouse, -1, heard.may_live, -1)
        self.assertEqual(heard.reports(), [(0, 1)])

    def test_no_house_where_nothing_was_heard(self):
        for roads in [[], row_of(3)]:
            heard = Reports(Village(roads))
            many = len(roads) + 1
            for ask in [heard.tell, heard.take_back, heard.near]:
                self.refused(NoHouse, many, ask, 0, many)
                self.refused(NoHouse, -1, ask, -1, many)
            for x in [many, -1]:
                self.refused(NoHouse, x, heard.may_live, x)
                self.refused(NoHouse, x, heard.may, [(x, 0)])
                self.refused(NoHouse, x, heard.may, [(0, x)])
            self.assertEqual(heard.reports(), [])

    def test_clash(self):
        heard = heard_of(row_of(4), [(0, 0)])
        self.refused(Clash, ((1, 2), (0, 0)), heard.tell, 1, 2)
        self.refused(Clash, ((0, 1), (0, 0)), heard.tell, 0, 1)
        self.assertEqual(heard.reports(), [(0, 0)])
        heard.tell(2, 2)
        self.refused(Clash, ((1, 0), (2, 2)), heard.tell, 1, 0)
        self.assertEqual(heard.reports(), [(0, 0), (2, 2)])

    def test_clash_with_the_least(self):
        heard = heard_of(row_of(6), [(5, 5), (3, 3), (4, 4), (1, 1)])
        self.refused(Clash, ((2, 5), (1, 1)), heard.tell, 2, 5)
        self.refused(Clash, ((5, 0), (3, 3)), heard.tell, 5, 0)
        heard.take_back(3, 3)
        self.refused(Clash, ((5, 0), (4, 4)), heard.tell, 5, 0)

    def test_the_least_is_by_numbers(self):
        heard = heard_of(star_of(12), [(10, 10), (9, 9)])
        self.refused(Clash, ((0, 5), (9, 9)), heard.tell, 0, 5)

    def test_a_clash_is_a_tuple_of_tuples(self):
        with self.assertRaises(Clash) as caught:
            heard_of(row_of(3), [(0, 0), (0, 2)])
        self.assertIs(type(caught.exception.what), tuple)
        self.assertEqual([type(one) for one in caught.exception.what], [tuple, tuple])

    def test_no_house_goes_ahead_of_clash(self):
        heard = heard_of(row_of(3), [(0, 0)])
        self.refused(NoHouse, 3, heard.tell, 0, 3)
        self.refused(NoHouse, -1, heard.tell, -1, 2)

    def test_no_report(self):
        heard = heard_of(row_of(3), [(0, 1)])
        self.refused(NoReport, (1, 0), heard.take_back, 1, 0)
        self.refused(NoReport, (0, 0), heard.take_back, 0, 0)
        self.assertEqual(heard.reports(), [(0, 1)])
        heard.take_back(0, 1)
        self.refused(NoReport, (0, 1), heard.take_back, 0, 1)
        self.refused(NoReport, (0, 1), Reports(Village(row_of(2))).take_back, 0, 1)

    def test_choices(self):
        heard = heard_of(row_of(3), [(0, 0)])
        self.refused(NoHouse, 5, heard.may, [(0, 5)])
        self.refused(NoHouse, 5, heard.may, [(5, 6)])
        self.refused(NoHouse, -1, heard.may, [(0, 0), (1, -1), (9, 9)])
        self.refused(NoHouse, 7, heard.may, [(0, 0), (7, -1), (-2, 0)])
        self.refused(NoHouse, 3, heard.may, [(0, 0), (1, 0), (2, 3)])

    def test_choices_that_may_not_be_are_refused_all_the_same(self):
        heard = heard_of(row_of(3), [(0, 0)])
        self.refused(NoHouse, 3, heard.may, [(0, 2), (1, 3)])
        self.refused(NoHouse, 3, heard.may, [(1, 0), (1, 2), (3, 0)])

    def test_what_is_refused_changes_nothing(self):
        heard = heard_of(row_of(3), [(0, 0)])
        choices = [(0, 0), (3, 0)]
        self.refused(NoHouse, 3, heard.may, choices)
        self.refused(Clash, ((0, 1), (0, 0)), heard.tell, 0, 1)
        self.refused(NoReport, (0, 1), heard.take_back, 0, 1)
        self.refused(NoHouse, 3, heard.tell, 3, 0)
        self.assertEqual(choices, [(0, 0), (3, 0)])
        self.assertEqual(heard, heard_of(row_of(3), [(0, 0)]))
        self.assertEqual(heard.may_live(1), [0, 1])


class Sameness(unittest.TestCase):
    def test_same_by_village_and_reports(self):
        one = heard_of([(0, 1), (1, 2)], [(0, 1), (2, 1)])
        other = heard_of([(2, 1), (1, 0)], [(2, 1), (0, 1), (2, 1)])
        self.assertIs(one == other, True)
        self.assertIs(one != other, False)
        other.take_back(2, 1)
        self.assertIs(one == other, False)
        self.assertIs(one != other, True)

    def test_unlike_by_village(self):
        one = heard_of([(0, 1), (1, 2)], [(0, 1)])
        other = heard_of([(0, 1), (0, 2)], [(0, 1)])
        self.assertIs(one == other, False)
        self.assertIs(one != other, True)
        self.assertIs(Reports(Village([])) != Reports(Village([(0, 1)])), True)

    def test_unlike_what_is_no_reports(self):
        one = heard_of([(0, 1)], [])
        for other in [None, 0, [], Village([(0, 1)])]:
            self.assertIs(one == other, False)
            self.assertIs(one != other, True)


class MayLive(unittest.TestCase):
    def test_without_reports_anywhere(self):
        heard = heard_of(row_of(4), [])
        self.assertEqual(heard.may_live(2), [0, 1, 2, 3])

    def test_as_near_to_who_is_reported_as_before(self):
        heard = heard_of(row_of(5), [(0, 4)])
        self.assertEqual([heard.may_live(x) for x in range(5)],
                         [[4], [3, 4], [2, 3, 4], [1, 2, 3, 4], [0, 1, 2, 3, 4]])
        heard.tell(3, 3)
        self.assertEqual([heard.may_live(x) for x in range(5)],
                         [[4], [3, 4], [2, 3, 4], [3], [2, 3, 4]])

    def test_told_lists_are_the_askers_own(self):
        heard = heard_of(row_of(3), [])
        heard.may_live(0).clear()
        told = heard.may_live(0)
        heard.tell(0, 1)
        self.assertEqual(told, [0, 1, 2])
        self.assertEqual(heard.may_live(0), [1])

    def test_asking_changes_nothing(self):
        heard = heard_of(row_of(3), [(0, 1)])
        heard.may_live(2)
        heard.may([(2, 2)])
        heard.near(1, 2)
        self.assertEqual(heard, heard_of(row_of(3), [(0, 1)]))


class May(unittest.TestCase):
    def test_no_choices(self):
        self.assertIs(heard_of(row_of(3), []).may([]), True)
        self.assertIs(heard_of(row_of(3), [(0, 2)]).may([]), True)

    def test_by_each_and_by_each_two(self):
        heard = heard_of(row_of(5), [(2, 2)])
        self.assertIs(heard.may([(0, 4), (1, 3), (3, 1), (4, 0)]), True)
        self.assertIs(heard.may([(1, 4)]), False)
        self.assertIs(heard.may([(0, 4), (1, 3), (1, 3)]), True)
        self.assertIs(heard.may([(0, 4), (1, 2)]), False)
        self.assertIs(heard.may([(1, 2), (0, 4)]), False)

    def test_a_house_twice_among_the_choices(self):
        heard = heard_of(row_of(3), [])
        self.assertIs(heard.may([(0, 1), (0, 1)]), True)
        self.assertIs(heard.may([(0, 1), (0, 2)]), False)
        self.assertIs(heard.may([(0, 1), (2, 1), (0, 0)]), False)

    def test_choices_stay_as_they_are_and_are_not_kept(self):
        heard = heard_of(row_of(3), [])
        choices = [(2, 1), (0, 1)]
        self.assertIs(heard.may(choices), True)
        self.assertEqual(choices, [(2, 1), (0, 1)])
        self.assertEqual(heard.reports(), [])
        self.assertIs(heard.may([(0, 0), (1, 0), (2, 0)]), True)


class ManyChoices(Asking):
    """Forty houses in a row, forty reports, forty choices."""

    def setUp(self):
        self.stayed = [(x, x) for x in range(40)]
        self.turned = [(x, 39 - x) for x in range(40)]
        self.heard = heard_of(row_of(40), self.stayed)

    def test_all_as_reported(self):
        self.assertIs(self.heard.may(self.stayed), True)
        self.assertIs(self.heard.may(self.stayed[::-1]), True)
        self.assertIs(heard_of(row_of(40), self.turned).may(self.turned), True)

    def test_one_of_them_not_as_reported(self):
        for x in range(40):
            for p in [(x + 1) % 40, (x + 39) % 40]:
                choices = self.stayed[:x] + [(x, p)] + self.stayed[x + 1:]
                self.assertIs(self.heard.may(choices), False)

    def test_fit_for_each_other_but_not_for_the_reports(self):
        self.assertIs(self.heard.may(self.turned), False)
        self.assertIs(heard_of(row_of(40), [(39, 37)]).may(self.stayed[:39]), True)
        self.assertIs(heard_of(row_of(40), [(39, 36)]).may(self.stayed[:39]), False)

    def test_fit_for_the_reports_but_not_for_each_other(self):
        heard = heard_of(row_of(40), [(20, 20)])
        self.assertIs(heard.may(self.stayed), True)
        for x in [0, 19, 21, 39]:
            choices = self.stayed[:x] + [(x, 40 - x if x else 39)] + self.stayed[x + 1:]
            self.assertEqual([p in heard.may_live(x) for x, p in choices], [True] * 40)
            self.assertIs(heard.may(choices), False)

    def test_without_reports(self):
        heard = heard_of(row_of(40), [])
        self.assertIs(heard.may(self.turned), True)
        self.assertIs(heard.may([(x, 7) for x in range(40)]), True)
        self.assertIs(heard.may(self.turned[:39] + [(39, 3)]), False)
        self.assertIs(heard.may([(39, 3)] + self.turned[:39]), False)

    def test_refusals_go_first_and_in_order(self):
        self.refused(NoHouse, 40, self.heard.may, self.stayed[:39] + [(39, 40)])
        self.refused(NoHouse, -1, self.heard.may, self.turned[:39] + [(-1, 40)])
        self.refused(NoHouse, 40, self.heard.may, self.turned[:20] + [(20, 40), (41, 0)] + self.turned[22:])
        self.assertEqual(self.heard.reports(), self.stayed)

    def test_choices_stay_as_they_are(self):
        choices = list(self.stayed)
        self.heard.may(choices)
        self.assertEqual(choices, self.stayed)
        self.assertEqual(self.heard.reports(), self.stayed)

    def test_quick_enough(self):
        self.assertLess(seconds(lambda: self.heard.may(self.stayed)), 0.003)


class Near(unittest.TestCase):
    def test_of_one_house_with_itself(self):
        self.assertEqual(heard_of(row_of(3), []).near(1, 1), (0, 0))
        self.assertEqual(heard_of(row_of(3), [(0, 2)]).near(2, 2), (0, 0))

    def test_never_farther_than_before(self):
        heard = heard_of(row_of(4), [])
        self.assertEqual(heard.near(0, 3), (0, 3))
        self.assertEqual(heard.near(2, 1), (0, 1))

    def test_as_the_reports_let(self):
        heard = heard_of(row_of(5), [(0, 0), (4, 4)])
        self.assertEqual(heard.near(1, 3), (2, 2))
        heard = heard_of(row_of(5), [(0, 0), (4, 3)])
        self.assertEqual(heard.near(1, 3), (1, 2))
        self.assertEqual(heard.near(3, 0), (2, 3))
        self.assertIs(type(heard.near(3, 0)), tuple)

    def test_no_room_for_as_far_as_before(self):
        # Both live in one end now, however far from it they lived.
        heard = heard_of(star_of(4), [(1, 2)])
        self.assertEqual(heard.near(1, 3), (0, 2))
        heard = heard_of(row_of(3), [(1, 0)])
        self.assertEqual(heard.near(0, 2), (0, 1))


class GreaterVillages(unittest.TestCase):
    """Up to the sizes in use: forty houses, forty reports, forty choices."""

    def told(self, chance, roads):
        tale = some_tale(chance, roads)
        many = chance.choice([0, 1, 2, 5, len(tale)])
        return tale, [(x, tale[x]) for x in chance.sample(range(len(tale)), min(many, len(tale)))]

    def cases(self):
        chance = random.Random(11)
        for many in [9, 20, 40]:
            for roads in [row_of(many), star_of(many), grown(chance, many), grown(chance, many)]:
                for _ in range(3):
                    yield (chance, roads) + self.told(chance, roads)

    def test_all_reports_of_a_tale_are_taken(self):
        for _, roads, _, told in self.cases():
            self.assertEqual(heard_of(roads, told).reports(), sorted(told))

    def test_a_report_is_taken_just_where_it_fits(self):
        for chance, roads, _, told in self.cases():
            far = apart_by_hand(roads)
            heard = heard_of(roads, told)
            for _ in range(20):
                x, y = chance.randrange(len(far)), chance.randrange(len(far))
                against = [(z, q) for z, q in sorted(told) if far[y][q] > far[x][z]]
                self.assertEqual(all(homes_in_some_tale(roads, told + [(x, y)])), not against)
                if against:
                    with self.assertRaises(Clash) as caught:
                        heard.tell(x, y)
                    self.assertEqual(caught.exception.what, ((x, y), against[0]))
                elif (x, y) not in told:
                    heard.tell(x, y)
                    heard.take_back(x, y)
                self.assertEqual(heard.reports(), sorted(told))

    def test_may_live(self):
        for _, roads, _, told in self.cases():
            heard = heard_of(roads, told)
            homes = homes_in_some_tale(roads, told)
            self.assertEqual([heard.may_live(x) for x in range(len(homes))], [sorted(some) for some in homes])

    def test_may(self):
        for chance, roads, tale, told in self.cases():
            heard = heard_of(roads, told)
            houses = range(len(tale))
            self.assertIs(heard.may([(x, tale[x]) for x in houses]), True)
            for many in [1, 2, 2, 3, 5, 5]:
                choices = [(x, chance.choice(heard.may_live(x))) for x in chance.sample(houses, many)]
                if chance.random() < 0.2:
                    choices.append((chance.choice(houses), chance.choice(houses)))
                self.assertIs(heard.may(choices), all(homes_in_some_tale(roads, told + choices)))

    def test_may_of_many_choices_one_of_them_thrown(self):
        for chance, roads, tale, told in self.cases():
            heard = heard_of(roads, told)
            for _ in range(4):
                choices = [(x, tale[x]) for x in chance.choices(range(len(tale)), k=39)]
                x = chance.randrange(len(tale))
                choices.insert(chance.randrange(40), (x, chance.choice(heard.may_live(x))))
                self.assertIs(heard.may(choices), all(homes_in_some_tale(roads, told + choices)))

    def test_near(self):
        for chance, roads, _, told in self.cases():
            heard = heard_of(roads, told)
            far = apart_by_hand(roads)
            for _ in range(2):
                x, z = chance.randrange(len(far)), chance.randrange(len(far))
                ways = set()
                for p in homes_in_some_tale(roads, told)[x]:
                    homes = homes_in_some_tale(roads, told + [(x, p)])
                    ways |= {far[p][q] for q in homes[z]}
                self.assertEqual(heard.near(x, z), (min(ways), max(ways)))
                self.assertEqual(sorted(ways), list(range(min(ways), max(ways) + 1)))


if __name__ == "__main__":
    unittest.main()
