"""[13], [14], [15], and as far as they reach [2] and [3]: tales, and tales gone on with."""

import random
import unittest
from itertools import product

from asking import Asking, seconds
from by_hand import all_tales, apart_by_hand, grown, row_of, some_tale, star_of, trees
from movedays.errors import NoDays, NoHouse, NoTale
from movedays.tales import at_home, changed_in, gone_on, is_tale, meet
from movedays.villages import Village

SIXTY = 10 ** 59


def one_by_one(tale, times):
    """Where each lives then, by going on house by house; rings are gone round just once."""
    told = []
    for x in range(len(tale)):
        seen = []
        while x not in seen:
            seen.append(x)
            x = tale[x]
        ahead = seen.index(x)
        ring = seen[ahead:]
        told.append(seen[times] if times < ahead else ring[(times - ahead) % len(ring)])
    return told


def met_one_by_one(tale, x, z):
    """Behind how many times two live in one house, gone on with until a pair comes again."""
    seen = []
    while (x, z) not in seen:
        if x == z:
            return len(seen)
        seen.append((x, z))
        x, z = tale[x], tale[z]
    return None


def rings_of(lengths):
    """A tale of a star: its leaves go round in rings of these lengths."""
    tale = [0]
    for many in lengths:
        first = len(tale)
        tale += list(range(first + 1, first + many)) + [first]
    return tale


class IsTale(Asking):
    def test_tales(self):
        village = Village(row_of(4))
        for tale in [[0, 1, 2, 3], [3, 2, 1, 0], [2, 2, 2, 2], [1, 0, 1, 2], [1, 2, 2, 1]]:
            self.assertIs(is_tale(village, tale), True)
        self.assertIs(is_tale(Village(star_of(4)), [0, 2, 3, 1]), True)

    def test_two_farther_from_one_another(self):
        village = Village(row_of(4))
        for tale in [[0, 2, 2, 2], [0, 0, 0, 2], [0, 1, 3, 3], [3, 0, 0, 0]]:
            self.assertIs(is_tale(village, tale), False)
        self.assertIs(is_tale(Village(star_of(4)), [1, 0, 2, 3]), False)

    def test_not_just_one_house_for_each(self):
        village = Village(row_of(3))
        for tale in [[], [0], [0, 1], [0, 1, 2, 2], [1, 1, 1, 1]]:
            self.assertIs(is_tale(village, tale), False)

    def test_one_house(self):
        village = Village([])
        self.assertIs(is_tale(village, [0]), True)
        self.assertIs(is_tale(village, []), False)
        self.assertIs(is_tale(village, [0, 0]), False)
        self.refused(NoHouse, 1, is_tale, village, [1])
        self.refused(NoHouse, -1, is_tale, village, [-1])

    def test_no_house_goes_ahead(self):
        village = Village(row_of(3))
        self.refused(NoHouse, 3, is_tale, village, [0, 1, 3])
        self.refused(NoHouse, -1, is_tale, village, [0, -1, 3])
        self.refused(NoHouse, 5, is_tale, village, [5, -1, 3])
        self.refused(NoHouse, 3, is_tale, village, [0, 2, 3])
        self.refused(NoHouse, 3, is_tale, village, [3])
        self.refused(NoHouse, -3, is_tale, village, [0, 1, 2, -3])
        self.refused(NoHouse, SIXTY, is_tale, village, [0, 1, SIXTY])

    def test_all_lists_of_small_villages(self):
        for many in range(1, 5):
            lists = [list(row) for length in range(many + 2) for row in product(range(many), repeat=length)]
            for roads in trees(many):
                village = Village(roads)
                tales = all_tales(roads)
                self.assertEqual([told for told in lists if is_tale(village, told)], tales)


class WhoIsAtHome(Asking):
    def test_at_home(self):
        village = Village(row_of(4))
        self.assertEqual(at_home(village, [0, 1, 2, 3]), [0, 1, 2, 3])
        self.assertEqual(at_home(village, [2, 2, 2, 3]), [2, 3])
        self.assertEqual(at_home(village, [3, 2, 1, 0]), [])
        self.assertEqual(at_home(Village([]), [0]), [0])

    def test_changed(self):
        self.assertEqual(changed_in(Village(row_of(4)), [3, 2, 1, 0]), (1, 2))
        self.assertEqual(changed_in(Village(row_of(5)), [1, 2, 3, 4, 3]), (3, 4))
        self.assertEqual(changed_in(Village([(1, 0)]), [1, 0]), (0, 1))
        self.assertEqual(changed_in(Village([(3, 1), (0, 3), (2, 0)]), [3, 2, 1, 0]), (0, 3))
        self.assertIs(type(changed_in(Village([(1, 0)]), [1, 0])), tuple)

    def test_none_changed_where_somebody_is_at_home(self):
        self.assertIsNone(changed_in(Village([]), [0]))
        self.assertIsNone(changed_in(Village(row_of(3)), [2, 1, 0]))
        self.assertIsNone(changed_in(Village(row_of(3)), [0, 1, 2]))
        self.assertIsNone(changed_in(Village(star_of(4)), [0, 2, 1, 3]))

    def test_all_tales_of_small_villages(self):
        for many in range(1, 6):
            for roads in trees(many)[::1 if many < 5 else 6]:
                village = Village(roads)
                for tale in all_tales(roads):
                    home = [c for c in range(many) if tale[c] == c]
                    pairs = [(x, y) for x, y in village.roads() if tale[x] == y and tale[y] == x]
                    self.assertEqual(at_home(village, tale), home)
                    self.assertEqual([changed_in(village, tale)], [None] if home else pairs)


class GoneOn(Asking):
    def test_some_times(self):
        village = Village(row_of(5))
        tale = [1, 2, 3, 4, 3]
        told = [gone_on(village, tale, times) for times in range(5)]
        self.assertEqual(told, [[0, 1, 2, 3, 4], tale, [2, 3, 4, 3, 4], [3, 4, 3, 4, 3], [4, 3, 4, 3, 4]])

    def test_no_times(self):
        self.assertEqual(gone_on(Village(row_of(4)), [2, 2, 2, 2], 0), [0, 1, 2, 3])
        self.assertEqual(gone_on(Village([]), [0], 0), [0])

    def test_sixty_figures(self):
        turned = [3, 2, 1, 0]
        self.assertEqual(gone_on(Village(row_of(4)), turned, SIXTY), [0, 1, 2, 3])
        self.assertEqual(gone_on(Village(row_of(4)), turned, 10 * SIXTY - 1), turned)
        self.assertEqual(gone_on(Village([]), [0], SIXTY), [0])
        village = Village(star_of(39))
        tale = rings_of([2, 3, 5, 7, 9, 12])
        self.assertEqual(gone_on(village, tale, 1260 * SIXTY), list(range(39)))
        self.assertEqual(gone_on(village, tale, 1260 * SIXTY + 1), tale)
        for times in [SIXTY, SIXTY + 1, SIXTY * 7 // 3, 10 * SIXTY - 1]:
            self.assertEqual(gone_on(village, tale, times), one_by_one(tale, times))

    def test_all_tales_of_small_villages(self):
        for many in range(1, 5):
            for roads in trees(many):
                village = Village(roads)
                for tale in all_tales(roads):
                    for times in [0, 1, 2, 3, 4, 5, 8, SIXTY + 5]:
                        self.assertEqual(gone_on(village, tale, times), one_by_one(tale, times))

    def test_greater_villages(self):
        chance = random.Random(31)
        for many in [9, 20, 40]:
            for roads in [row_of(many), star_of(many), grown(chance, many), grown(chance, many)]:
                village = Village(roads)
                for _ in range(5):
                    tale = some_tale(chance, roads)
                    for times in [0, 1, 2, 3, many, 1000, chance.randrange(SIXTY, 10 * SIXTY)]:
                        self.assertEqual(gone_on(village, tale, times), one_by_one(tale, times))

    def test_quick_enough(self):
        village = Village(star_of(39))
        tale = rings_of([2, 3, 5, 7, 9, 12])
        self.assertLess(seconds(lambda: gone_on(village, tale, 10 * SIXTY - 1)), 0.01)


class Meet(Asking):
    def test_some_times(self):
        village = Village(row_of(5))
        self.assertEqual(meet(village, [1, 2, 3, 4, 3], 0, 2), 3)
        self.assertEqual(meet(village, [1, 2, 3, 4, 3], 2, 4), 1)
        self.assertEqual(meet(village, [2, 2, 2, 2, 2], 4, 0), 1)

    def test_never(self):
        self.assertIsNone(meet(Village(row_of(5)), [1, 2, 3, 4, 3], 0, 1))
        self.assertIsNone(meet(Village(row_of(5)), [0, 1, 2, 3, 4], 2, 3))
        self.assertIsNone(meet(Village(star_of(4)), [0, 2, 3, 1], 1, 2))

    def test_a_house_with_itself(self):
        village = Village(row_of(4))
        for tale in [[0, 1, 2, 3], [3, 2, 1, 0], [2, 2, 2, 2]]:
            for x in range(4):
                self.assertEqual(meet(village, tale, x, x), 0)
        self.assertEqual(meet(Village([]), [0], 0, 0), 0)

    def test_at_the_last(self):
        for many in [2, 3, 5, 40]:
            village = Village(row_of(many))
            tale = [0] + list(range(many - 1))
            self.assertEqual(meet(village, tale, many - 1, 0), many - 1)
            self.assertEqual(meet(village, tale, many - 2, many - 1), many - 1)

    def test_kind(self):
        self.assertIs(type(meet(Village(row_of(2)), [0, 0], 1, 1)), int)
        self.assertIs(type(meet(Village(row_of(2)), [0, 0], 0, 1)), int)

    def test_all_tales_of_small_villages(self):
        for many in range(1, 5):
            for roads in trees(many):
                village = Village(roads)
                for tale in all_tales(roads):
                    for x in range(many):
                        for z in range(many):
                            self.assertEqual(meet(village, tale, x, z), met_one_by_one(tale, x, z))

    def test_greater_villages(self):
        chance = random.Random(32)
        for many in [9, 20, 40]:
            for roads in [row_of(many), star_of(many), grown(chance, many), grown(chance, many)]:
                village = Village(roads)
                tale = some_tale(chance, roads)
                for _ in range(60):
                    x, z = chance.randrange(many), chance.randrange(many)
                    self.assertEqual(meet(village, tale, x, z), met_one_by_one(tale, x, z))

    def test_quick_enough(self):
        village = Village(row_of(40))
        self.assertLess(seconds(lambda: meet(village, [0] + list(range(39)), 39, 0)), 0.01)


class OneBehindTheOther(unittest.TestCase):
    def test_all_two_tales_of_small_villages(self):
        for many in range(1, 5):
            for roads in trees(many)[::1 if many < 4 else 5]:
                village = Village(roads)
                tales = all_tales(roads)
                for one in tales:
                    for other in tales:
                        self.assertIs(is_tale(village, [other[p] for p in one]), True)

    def test_greater_villages(self):
        chance = random.Random(33)
        for many in [9, 20, 40]:
            for roads in [row_of(many), star_of(many), grown(chance, many), grown(chance, many)]:
                village = Village(roads)
                far = apart_by_hand(roads)
                for _ in range(10):
                    one, other = some_tale(chance, roads), some_tale(chance, roads)
                    both = [other[p] for p in one]
                    self.assertIs(is_tale(village, both), True)
                    self.assertTrue(all(far[both[x]][both[z]] <= far[x][z] for x in range(many) for z in range(x)))

    def test_gone_on_is_a_tale_and_goes_on(self):
        chance = random.Random(34)
        for roads in [row_of(40), star_of(40), grown(chance, 40)]:
            village = Village(roads)
            tale = some_tale(chance, roads)
            for one, other in [(0, 1), (2, 3), (39, 40), (SIXTY, SIXTY + 1)]:
                ahead = gone_on(village, tale, one)
                then = gone_on(village, tale, other)
                self.assertIs(is_tale(village, ahead), True)
                self.assertEqual([then[p] for p in ahead], gone_on(village, tale, one + other))


class Refusals(Asking):
    def asks(self):
        """All that ask for a tale, with all else in order."""
        return [
            at_home,
            changed_in,
            lambda village, tale: gone_on(village, tale, 0),
            lambda village, tale: gone_on(village, tale, SIXTY),
            lambda village, tale: meet(village, tale, 0, 0),
        ]

    def test_no_house_in_a_tale(self):
        village = Village(row_of(3))
        for ask in self.asks():
            self.refused(NoHouse, 3, ask, village, [0, 1, 3])
            self.refused(NoHouse, -1, ask, village, [0, -1, 3])
            self.refused(NoHouse, 7, ask, village, [7])
            self.refused(NoHouse, 7, ask, village, [0, 2, 0, 7])
            self.refused(NoHouse, 1, ask, Village([]), [1])

    def test_no_tale(self):
        village = Village(row_of(3))
        for ask in self.asks():
            for tale in [[], [0, 1], [0, 1, 2, 2], [0, 2, 2], [2, 0, 1]]:
                self.refused(NoTale, None, ask, village, tale)
            self.refused(NoTale, None, ask, Village([]), [])
            self.refused(NoTale, None, ask, Village([]), [0, 0])

    def test_no_days(self):
        village = Village(row_of(3))
        for times in [-1, -2, -SIXTY]:
            self.refused(NoDays, times, gone_on, village, [0, 1, 2], times)
            self.refused(NoDays, times, gone_on, Village([]), [0], times)

    def test_days_go_last(self):
        village = Village(row_of(3))
        self.refused(NoHouse, 3, gone_on, village, [0, 2, 3], -1)
        self.refused(NoHouse, 3, gone_on, village, [3], -1)
        self.refused(NoTale, None, gone_on, village, [0, 2, 2], -1)
        self.refused(NoTale, None, gone_on, village, [], -1)

    def test_houses_that_meet(self):
        village = Village(row_of(3))
        tale = [0, 1, 2]
        for x, z, what in [(3, 0, 3), (0, 3, 3), (-1, 0, -1), (0, -1, -1), (9, -1, 9), (-1, 9, -1), (5, 5, 5)]:
            self.refused(NoHouse, what, meet, village, tale, x, z)
        self.refused(NoHouse, 1, meet, Village([]), [0], 0, 1)

    def test_houses_that_meet_go_behind_the_tale(self):
        village = Village(row_of(3))
        self.refused(NoTale, None, meet, village, [0, 2, 2], 9, 0)
        self.refused(NoTale, None, meet, village, [0, 1], 0, -1)
        self.refused(NoHouse, 3, meet, village, [0, 2, 3], 9, 8)
        self.refused(NoHouse, -2, meet, village, [-2], 9, 8)

    def test_what_is_refused_changes_nothing(self):
        village = Village(row_of(3))
        for tale in [[0, 1, 3], [0, 2, 2], [0, 1], [1, 1, 1]]:
            kept = list(tale)
            for ask in self.asks() + [lambda village, tale: gone_on(village, tale, -1)]:
                try:
                    ask(village, tale)
                except (NoHouse, NoTale, NoDays):
                    pass
                self.assertEqual(tale, kept)
        self.assertEqual(village, Village(row_of(3)))


class Lists(unittest.TestCase):
    def asks(self):
        """All that tell a list of a village and a tale."""
        return [at_home] + [lambda village, tale, n=n: gone_on(village, tale, n) for n in [0, 1, 2, 3, SIXTY]]

    def test_lists_handed_in_stay_as_they_are(self):
        village = Village(row_of(4))
        for tale in [[1, 2, 2, 1], [0, 1, 2, 3], [3, 2, 1, 0]]:
            kept = list(tale)
            for ask in self.asks() + [is_tale, changed_in, lambda village, tale: meet(village, tale, 0, 3)]:
                ask(village, tale)
                self.assertEqual(tale, kept)
        self.assertEqual(village, Village(row_of(4)))

    def test_told_lists_are_the_askers_own(self):
        village = Village(row_of(4))
        for ask in self.asks():
            tale = [1, 2, 2, 1]
            told = ask(village, tale)
            self.assertIs(type(told), list)
            self.assertIsNot(told, tale)
            kept = list(told)
            ask(village, tale).append(99)
            self.assertEqual(tale, [1, 2, 2, 1])
            self.assertEqual(ask(village, tale), kept)
            tale.clear()
            self.assertEqual(told, kept)


if __name__ == "__main__":
    unittest.main()
