"""[1], [4], and over the whole [2]: all that is told hangs on the village and on the reports that stand."""

import random
import unittest

from asking import Asking, heard_of
from by_hand import apart_by_hand, grown, homes_in_some_tale, row_of, some_tale, star_of
from movedays.errors import Clash, NoHouse, NoReport
from movedays.homes import changed, home_paper, may_be_home, moved_paper, surely_home
from movedays.moves import laziest, least_move, nearest
from movedays.readings import read_reports, read_tale, read_village
from movedays.rounds import rounds
from movedays.tales import at_home, changed_in, gone_on, is_tale, meet
from movedays.texts import show_reports, show_tale, show_village


def all_told(heard):
    """All that is told of reports, each by a name."""
    village = heard.village()
    houses = range(village.houses())
    lazy = laziest(heard)
    return {
        "village": (village.roads(), show_village(village)),
        "reports": (heard.reports(), show_reports(heard)),
        "homes": [heard.may_live(x) for x in houses],
        "near": [heard.near(x, z) for x in houses for z in houses],
        "may": [heard.may([(x, p), (p, x)]) for x in houses for p in houses],
        "moves": [least_move(heard, x) for x in houses],
        "laziest": (lazy, show_tale(lazy)),
        "nearest": [nearest(heard, t) for t in houses],
        "may be home": may_be_home(heard),
        "surely home": surely_home(heard),
        "changed": changed(heard),
        "home papers": [home_paper(heard, c) for c in houses],
        "moved papers": [moved_paper(heard, c) for c in houses],
        "rounds": rounds(heard),
        "tale": (is_tale(village, lazy), at_home(village, lazy), changed_in(village, lazy)),
        "gone on": [gone_on(village, lazy, times) for times in [0, 1, 2, 7, 10 ** 59]],
        "meet": [meet(village, lazy, x, z) for x in houses for z in houses],
    }


class Whole(Asking):
    def step(self, chance, heard, stands, tale):
        """Tell one report, tell one again, or take one back; stands is what must stand behind it."""
        many = len(tale)
        kind = chance.choice(3 * ["of the tale"] + 2 * ["thrown"] + ["again", "back", "no house"])
        report = (chance.randrange(many), chance.randrange(many))
        if kind == "of the tale":
            report = (report[0], tale[report[0]])
        if kind in ("again", "back") and stands:
            report = chance.choice(stands)
        if kind == "no house":
            self.refused(NoHouse, many, heard.tell, report[0], many)
            self.refused(NoHouse, -1, heard.take_back, -1, report[1])
        elif kind == "back":
            self.take_back(heard, stands, report)
        else:
            self.tell(heard, stands, report)

    def take_back(self, heard, stands, report):
        if report in stands:
            heard.take_back(*report)
            stands.remove(report)
        else:
            self.refused(NoReport, report, heard.take_back, *report)

    def tell(self, heard, stands, report):
        far = apart_by_hand(heard.village().roads())
        x, y = report
        against = [(z, q) for z, q in sorted(stands) if far[y][q] > far[x][z]]
        if against:
            self.refused(Clash, (report, against[0]), heard.tell, *report)
        else:
            heard.tell(*report)
            if report not in stands:
                stands.append(report)

    def hold(self, heard, roads, stands, chance):
        """What is told is as of reports made anew, told in another order."""
        told = all_told(heard)
        anew = heard_of(chance.sample(roads, len(roads)), chance.sample(stands, len(stands)))
        self.assertEqual(heard.reports(), sorted(stands))
        self.assertEqual(heard, anew)
        self.assertIs(heard != anew, False)
        self.assertEqual(told, all_told(anew))
        # Asking has changed nothing.
        self.assertEqual(heard, anew)
        return told

    def hold_the_words(self, heard, told):
        """[4]: the parts of the whole hang together."""
        village = heard.village()
        far = apart_by_hand(village.roads())
        houses = range(len(far))
        homes = homes_in_some_tale(village.roads(), heard.reports())
        self.assertEqual(told["homes"], [sorted(some) for some in homes])
        least = [min(far[x][p] for p in homes[x]) for x in houses]
        self.assertEqual(told["moves"], least)
        self.assertEqual(told["may be home"], [x for x in houses if least[x] == 0])
        self.assertEqual(told["surely home"], [x for x in houses if homes[x] == {x}])
        lazy = told["laziest"][0]
        self.assertEqual([far[x][lazy[x]] for x in houses], least)
        self.assertEqual(told["tale"], (True, told["may be home"], told["changed"]))
        self.assertTrue(heard.may(list(enumerate(lazy))))
        for t, tale in enumerate(told["nearest"]):
            self.assertEqual([far[t][p] for p in tale], [min(far[t][p] for p in homes[x]) for x in houses])
            self.assertTrue(is_tale(village, tale))
        read = read_reports(told["reports"][1])
        self.assertEqual(read, heard)
        self.assertEqual(all_told(read), told)
        self.assertEqual(read_village(told["village"][1]), village)
        self.assertEqual(read_tale(told["laziest"][1]), lazy)
        self.hold_papers(heard, told, homes)
        self.hold_rounds(village, told)

    def hold_papers(self, heard, told, homes):
        roads = heard.village().roads()
        for c, paper in enumerate(told["home papers"]):
            self.assertEqual(paper is not None, c in told["surely home"])
            if paper is not None:
                self.assertLessEqual(len(paper), 2)
                self.assertEqual(homes_in_some_tale(roads, paper)[c], {c})
        for c, report in enumerate(told["moved papers"]):
            self.assertEqual(report is None, c in told["may be home"])
            if report is not None:
                self.assertEqual(least_move(heard_of(roads, [report]), c), told["moves"][c])

    def hold_rounds(self, village, told):
        for row in told["rounds"]:
            middle = village.middle(row)
            if len(middle) == 1:
                self.assertIn(middle[0], told["surely home"])
            else:
                self.assertEqual(told["changed"], middle)

    def go_on(self, chance, roads, tale):
        heard = heard_of(roads, [])
        stands = []
        for number in range(16):
            self.step(chance, heard, stands, tale)
            told = self.hold(heard, roads, stands, chance)
            if number % 4 == 0:
                self.hold_the_words(heard, told)

    def test_villages_of_up_to_twenty_houses(self):
        chance = random.Random(20)
        for many in range(1, 21):
            roads = grown(chance, many)
            self.go_on(chance, roads, some_tale(chance, roads))

    def test_rows_turned_about_and_stars_turned_round(self):
        chance = random.Random(21)
        for many in [2, 5, 6, 19, 20]:
            self.go_on(chance, row_of(many), list(range(many))[::-1])
        for many in [4, 6, 20]:
            self.go_on(chance, star_of(many), [0] + list(range(2, many)) + [1])


if __name__ == "__main__":
    unittest.main()
