"""[5], [6], and as far as they reach [2] and [3]: villages."""

import random
import unittest

from by_hand import apart_by_hand, grown, row_of, star_of, trees
from movedays.errors import NoHouse, NoRoad, VillageError
from movedays.villages import Village


class Making(unittest.TestCase):
    def refused(self, roads, number):
        with self.assertRaises(NoRoad) as caught:
            Village(roads)
        self.assertEqual(caught.exception.what, number)
        self.assertIs(type(caught.exception.what), int)
        self.assertIsInstance(caught.exception, VillageError)

    def test_one_house_without_roads(self):
        village = Village([])
        self.assertEqual(village.houses(), 1)
        self.assertEqual(village.roads(), [])
        self.assertEqual(village.way(0, 0), [0])
        self.assertEqual(village.apart(0, 0), 0)
        self.assertEqual(village.ball(0, 0), [0])
        self.assertEqual(village.middle([0]), (0,))

    def test_roads_are_told_in_order(self):
        village = Village([(4, 2), (1, 0), (3, 1), (2, 1)])
        self.assertEqual(village.houses(), 5)
        self.assertEqual(village.roads(), [(0, 1), (1, 2), (1, 3), (2, 4)])
        self.assertEqual(Village([(0, 10), (0, 9), (9, 8)] + [(0, x) for x in range(1, 8)]).roads()[-3:],
                         [(0, 9), (0, 10), (8, 9)])

    def test_roads_are_pairs_of_whole_numbers(self):
        for road in Village([(1, 0), (2, 1)]).roads():
            self.assertIs(type(road), tuple)
            self.assertEqual([type(x) for x in road], [int, int])

    def test_a_road_to_itself(self):
        self.refused([(0, 0)], 0)
        self.refused([(0, 1), (1, 1)], 1)

    def test_a_road_to_a_house_that_there_is_not(self):
        self.refused([(0, 2)], 0)
        self.refused([(2, 0)], 0)
        self.refused([(-1, 0)], 0)
        self.refused([(0, -1)], 0)
        self.refused([(0, 1), (1, 2), (3, 4)], 2)
        self.refused([(0, 1), (1, 2), (2, -2)], 2)
        self.refused([(0, 1), (1, 10 ** 60)], 1)

    def test_a_road_between_houses_that_hang_together(self):
        self.refused([(0, 1), (1, 2), (2, 0)], 2)
        self.refused([(0, 1), (2, 3), (1, 2), (0, 3), (4, 5)], 3)
        self.refused([(3, 2), (1, 0), (2, 0), (3, 1)], 3)

    def test_a_road_told_twice(self):
        self.refused([(0, 1), (0, 1)], 1)
        self.refused([(0, 1), (1, 0)], 1)
        self.refused([(0, 1), (1, 2), (0, 1), (3, 4)], 2)

    def test_the_first_wrong_road_goes_first(self):
        self.refused([(0, 1), (1, 0), (9, 9), (2, 2)], 1)
        self.refused([(0, 1), (9, 1), (1, 0), (2, 2)], 1)
        self.refused([(0, 1), (3, 3), (1, 0), (9, 2)], 1)

    def test_roads_handed_in_stay_and_are_not_kept(self):
        roads = [(2, 1), (1, 0)]
        village = Village(roads)
        self.assertEqual(roads, [(2, 1), (1, 0)])
        roads.append((5, 5))
        roads[0] = (0, 2)
        self.assertEqual(village.roads(), [(0, 1), (1, 2)])
        self.assertEqual(village.apart(0, 2), 2)

    def test_refused_roads_stay_as_they_are(self):
        roads = [(2, 1), (1, 2)]
        self.refused(roads, 1)
        self.assertEqual(roads, [(2, 1), (1, 2)])

    def test_told_roads_are_the_askers_own(self):
        village = Village([(0, 1), (1, 2)])
        told = village.roads()
        told.clear()
        self.assertEqual(village.roads(), [(0, 1), (1, 2)])
        self.assertEqual(village.houses(), 3)
        self.assertEqual(village.way(0, 2), [0, 1, 2])

    def test_all_small_villages_are_taken(self):
        for many in range(1, 6):
            for roads in trees(many):
                village = Village(roads)
                self.assertEqual(village.houses(), many)
                self.assertEqual(village.roads(), sorted([(min(road), max(road)) for road in roads]))

    def test_all_lists_of_up_to_three_roads(self):
        for many in range(4):
            pairs = [(x, y) for x in range(-1, many + 2) for y in range(-1, many + 2)]
            lists = [[]]
            for _ in range(many):
                lists = [roads + [pair] for roads in lists for pair in pairs]
            for roads in lists[::7] if many == 3 else lists:
                number = first_wrong(roads)
                if number is None:
                    self.assertEqual(Village(roads).houses(), many + 1)
                else:
                    self.refused(roads, number)

    def test_greater_lists_of_roads_with_a_road_thrown_in(self):
        chance = random.Random(6)
        for many in [6, 12, 25, 40] * 15:
            roads = grown(chance, many)
            roads[chance.randrange(many - 1)] = (chance.randrange(many), chance.randrange(many))
            number = first_wrong(roads)
            if number is None:
                self.assertEqual(Village(roads).roads(), sorted([(min(road), max(road)) for road in roads]))
            else:
                self.refused(roads, number)

    def test_a_ring_of_all_houses_is_refused_where_it_is_closed(self):
        for many in [3, 10, 40]:
            ring = row_of(many)[1:] + [(many - 1, 0)]
            self.assertEqual(Village(ring).houses(), many)
            self.refused(ring + [(0, 1)], many - 1)
            self.refused(ring[::-1] + [(0, 1), (many, 0)], many - 1)


def first_wrong(roads):
    """The number of the first road that [5] refuses, or None."""
    houses = range(len(roads) + 1)
    for number, (x, y) in enumerate(roads):
        if x not in houses or y not in houses or x == y:
            return number
        reached = {x}
        for _ in roads:
            for road in roads[:number]:
                if reached & set(road):
                    reached |= set(road)
        if y in reached:
            return number
    return None


class Sameness(unittest.TestCase):
    def test_same_by_roads(self):
        one = Village([(0, 1), (1, 2)])
        other = Village([(2, 1), (1, 0)])
        self.assertIs(one == other, True)
        self.assertIs(one != other, False)
        self.assertIs(Village([]) == Village([]), True)
        self.assertIs(Village([]) != Village([]), False)

    def test_unlike_by_roads(self):
        one = Village([(0, 1), (1, 2)])
        for roads in [[], [(0, 1)], [(0, 1), (0, 2)], [(0, 1), (1, 2), (2, 3)]]:
            self.assertIs(one == Village(roads), False)
            self.assertIs(one != Village(roads), True)

    def test_unlike_what_is_no_village(self):
        for other in [None, 0, [(0, 1)], "0-1"]:
            self.assertIs(Village([(0, 1)]) == other, False)
            self.assertIs(Village([(0, 1)]) != other, True)


class Ways(unittest.TestCase):
    def test_a_way_has_both_ends(self):
        village = Village([(0, 3), (3, 1), (1, 4), (3, 2)])
        self.assertEqual(village.way(0, 4), [0, 3, 1, 4])
        self.assertEqual(village.way(4, 0), [4, 1, 3, 0])
        self.assertEqual(village.way(2, 2), [2])
        self.assertEqual(village.apart(0, 4), 3)
        self.assertEqual(village.apart(2, 2), 0)

    def test_ball(self):
        village = Village([(0, 3), (3, 1), (1, 4), (3, 2)])
        self.assertEqual(village.ball(3, 0), [3])
        self.assertEqual(village.ball(3, 1), [0, 1, 2, 3])
        self.assertEqual(village.ball(4, 2), [1, 3, 4])
        self.assertEqual(village.ball(4, 3), [0, 1, 2, 3, 4])

    def test_a_ball_below_nought_and_far_beyond(self):
        village = Village([(0, 1), (1, 2)])
        for r in [-1, -2, -(10 ** 59)]:
            self.assertEqual(village.ball(1, r), [])
        for r in [3, 40, 10 ** 59]:
            self.assertEqual(village.ball(0, r), [0, 1, 2])

    def test_middle_of_one_house_and_of_two(self):
        village = Village(row_of(4))
        self.assertEqual(village.middle([0, 1, 2, 3]), (1, 2))
        self.assertEqual(village.middle([3, 0]), (1, 2))
        self.assertEqual(village.middle([0, 2]), (1,))
        self.assertEqual(village.middle([2]), (2,))
        self.assertEqual(village.middle([3, 3, 2]), (2, 3))
        self.assertEqual(Village([(0, 3), (3, 1), (1, 2)]).middle([0, 2]), (1, 3))

    def test_middle_may_be_none_of_the_houses(self):
        self.assertEqual(Village(star_of(6)).middle([2, 4, 5]), (0,))
        self.assertEqual(Village(star_of(6)).middle([4, 0]), (0, 4))

    def test_told_lists_are_the_askers_own(self):
        village = Village(row_of(3))
        for ask in [lambda: village.way(0, 2), lambda: village.ball(1, 1), lambda: village.far(0)]:
            told = ask()
            told.reverse()
            told.append(99)
            self.assertEqual(ask(), [0, 1, 2])
        self.assertEqual(village, Village(row_of(3)))

    def test_some_stays_as_it_is(self):
        some = [2, 0, 2]
        Village(row_of(3)).middle(some)
        self.assertEqual(some, [2, 0, 2])

    def test_kinds(self):
        village = Village(row_of(3))
        self.assertIs(type(village.houses()), int)
        self.assertIs(type(village.apart(0, 1)), int)
        self.assertIs(type(village.way(0, 1)), list)
        self.assertIs(type(village.ball(0, 1)), list)
        self.assertIs(type(village.ball(0, -1)), list)
        self.assertIs(type(village.middle([0])), tuple)

    def held_against_the_roads(self, roads, somes):
        far = apart_by_hand(roads)
        houses = range(len(far))
        village = Village(roads)
        for x in houses:
            for y in houses:
                self.assertEqual(village.apart(x, y), far[x][y])
                self.assertEqual(village.far(x)[y], far[x][y])
                way = village.way(x, y)
                self.assertEqual((way[0], way[-1], len(way)), (x, y, far[x][y] + 1))
                for one, other in zip(way, way[1:]):
                    self.assertEqual(far[one][other], 1)
            for r in range(-1, len(far) + 1):
                self.assertEqual(village.ball(x, r), [y for y in houses if far[x][y] <= r])
        for some in somes:
            reach = [max(far[x][y] for y in some) for x in houses]
            best = tuple(x for x in houses if reach[x] == min(reach))
            self.assertEqual(village.middle(some), best)
            self.assertIn(len(best), (1, 2))

    def test_small_villages_held_against_the_roads(self):
        for many in range(1, 6):
            somes = [[x for x in range(many) if bits >> x & 1] for bits in range(1, 2 ** many)]
            for roads in trees(many):
                self.held_against_the_roads(roads, somes)

    def test_greater_villages_held_against_the_roads(self):
        chance = random.Random(5)
        for many in [12, 25, 40, 40]:
            somes = [[chance.randrange(many) for _ in range(chance.randrange(1, 41))] for _ in range(30)]
            for roads in [grown(chance, many), row_of(many)[::-1], star_of(many)]:
                self.held_against_the_roads(roads, somes)


class NoHouses(unittest.TestCase):
    def refused(self, what, ask, *told):
        with self.assertRaises(NoHouse) as caught:
            ask(*told)
        self.assertEqual(caught.exception.what, what)

    def test_ways(self):
        village = Village(row_of(3))
        for ask in [village.way, village.apart]:
            self.refused(3, ask, 3, 0)
            self.refused(3, ask, 0, 3)
            self.refused(-1, ask, -1, 0)
            self.refused(-1, ask, 2, -1)
            self.refused(4, ask, 4, -2)
            self.refused(-2, ask, -2, 4)
            self.refused(7, ask, 7, 7)

    def test_far(self):
        village = Village(row_of(3))
        for what in [3, -1, 10 ** 59]:
            self.refused(what, village.far, what)

    def test_ball(self):
        village = Village(row_of(3))
        for r in [-1, 0, 1, 10 ** 59]:
            self.refused(3, village.ball, 3, r)
            self.refused(-3, village.ball, -3, r)

    def test_middle(self):
        village = Village(row_of(3))
        self.refused(3, village.middle, [3])
        self.refused(5, village.middle, [0, 5, 3, -1])
        self.refused(-1, village.middle, [0, 2, -1, 5])

    def test_middle_without_houses(self):
        self.refused(None, Village(row_of(3)).middle, [])
        self.refused(None, Village([]).middle, [])

    def test_one_house(self):
        village = Village([])
        self.refused(1, village.way, 0, 1)
        self.refused(-1, village.apart, -1, 0)
        self.refused(1, village.ball, 1, 5)
        self.refused(1, village.middle, [0, 1])

    def test_what_is_refused_changes_nothing(self):
        village = Village(row_of(3))
        some = [0, 9]
        self.refused(9, village.middle, some)
        self.refused(9, village.way, 0, 9)
        self.refused(9, village.ball, 9, 0)
        self.assertEqual(some, [0, 9])
        self.assertEqual(village, Village(row_of(3)))
        self.assertEqual(village.way(0, 2), [0, 1, 2])


if __name__ == "__main__":
    unittest.main()
