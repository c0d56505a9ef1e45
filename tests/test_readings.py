"""[17], and as far as it reaches [2] and [3]: texts read back, or refused."""

import random
import unittest

from asking import Asking, heard_of, seconds
from by_hand import grown, row_of, some_tale, star_of, trees
from movedays.errors import Clash, NoDays, NoHouse, NoReport, NoRoad, NoTale, NoText, VillageError
from movedays.readings import read_reports, read_tale, read_village
from movedays.reports import Reports
from movedays.texts import show_reports, show_tale, show_village
from movedays.villages import Village
from text_by_hand import MIRROR, ROW, STAR, STAR_ROADS, TURNED, TURNED_TALE

OTHERS = (NoRoad, NoHouse, Clash, NoReport, NoTale, NoDays)


class Reading(Asking):
    def unread(self, read, texts):
        for text in texts:
            with self.subTest(text=text):
                self.refused(NoText, text, read, text)

    def read_alone(self, read, texts):
        """The texts are read by this one, and by no other of the three readers."""
        for text in texts:
            read(text)
        for other in [read_village, read_reports, read_tale]:
            if other != read:
                self.unread(other, texts)


class Villages(Reading):
    def taken(self, text, roads):
        village = read_village(text)
        self.assertIs(type(village), Village)
        self.assertEqual(village, Village(roads))
        self.assertEqual(show_village(village), text)

    def test_one_house(self):
        self.taken("one", [])
        self.assertEqual(read_village("one").houses(), 1)

    def test_two_houses(self):
        self.taken("0-1", [(0, 1)])
        self.assertEqual(read_village("0-1").roads(), [(0, 1)])

    def test_several_houses(self):
        self.taken("0-3 1-3 1-4 2-3", [(3, 0), (3, 1), (1, 4), (3, 2)])
        self.taken("0-1 0-2 0-3 0-4 0-5 0-6 0-7 0-8 0-9 0-10 0-11", star_of(12))

    def test_forty_houses(self):
        self.taken(ROW, row_of(40))
        self.taken(STAR, STAR_ROADS)

    def test_each_small_village_is_read_back(self):
        for many in range(1, 6):
            for roads in trees(many):
                self.taken(show_village(Village(roads)), roads)

    def test_what_is_read_is_a_village_as_any_other(self):
        village = read_village("0-3 1-3 1-4 2-3")
        self.assertEqual(village.way(0, 4), [0, 3, 1, 4])
        self.assertEqual(village.middle([0, 4]), (1, 3))

    def test_a_new_one_each_time(self):
        one = read_village("0-1 1-2")
        other = read_village("0-1 1-2")
        self.assertIsNot(one, other)
        one.roads().clear()
        one.way(0, 2).clear()
        self.assertEqual(one, other)
        self.assertIsNot(read_village("one"), read_village("one"))

    def test_no_other_reader_reads_these(self):
        self.read_alone(read_village, ["one", "0-1", "0-1 1-2", ROW, STAR])

    def test_nothing_and_blanks(self):
        self.unread(read_village, ["", " ", "  ", " one", "one ", "o ne", " 0-1", "0-1 ", "0 -1", "0- 1"])
        self.unread(read_village, ["0 - 1", "0-1  1-2", " 0-1 1-2", "0-1 1-2 ", "0-1 1- 2", "0-1 1 -2"])
        self.unread(read_village, ["0-1 1 2", "0 1", "0-11-2"])

    def test_noughts_ahead(self):
        self.unread(read_village, ["00-1", "0-01", "00-01", "0-1 01-2", "0-1 1-02", "0-000000001", "000000000-1"])

    def test_ten_figures(self):
        self.unread(read_village, ["0-1000000000", "1000000000-1", "0-0000000001", "0-1 1-9999999999"])
        self.unread(read_village, ["0-" + "1" * 3000, "0" * 4000, "0-" + "0" * 3998, "1" * 5000 + "-0"])

    def test_signs_that_are_no_figures(self):
        self.unread(read_village, ["-", "--", "0-", "-1", "0--1", "-0-1", "0-1-", "0-1-2", "0-1--", "0-+1", "+0-1"])
        self.unread(read_village, ["0_1", "0-1_", "0-1_0", "0.1", "0-1.", "0-1.0", ".0-1", "a", "0-a", "x-y", "0x0-1"])
        self.unread(read_village, ["0>1", "0-1, 1-2", "0-1,1-2", "0-1;", "0-1:", "(0-1)", "0-1\n", "0-1\t1-2", "\n"])

    def test_signs_beyond_ascii(self):
        self.unread(read_village, ["0-\u0661", "\u0660-1", "0-\u00b9", "\uff10-1", "0\u20111", "0\u20131"])
        self.unread(read_village, ["0-1\u00a01-2", "\ufeff0-1", "\uff4fne"])

    def test_roads_not_in_order(self):
        self.unread(read_village, ["1-2 0-1", "0-2 0-1", "0-1 0-3 0-2", "1-3 0-3 2-3", "0-10 0-1 0-2"])
        self.unread(read_village, [" ".join(ROW.split(" ")[::-1]), "0-1 0-10 0-11 " + ROW[4:]])
        text = "0-1 0-10 0-11 0-2 0-3 0-4 0-5 0-6 0-7 0-8 0-9"
        self.unread(read_village, [text])

    def test_the_greater_house_ahead(self):
        self.unread(read_village, ["1-0", "1-0 1-2", "0-1 2-1", "0-3 3-1 1-4 2-3", "0-1 1-2 3-2"])

    def test_roads_that_cannot_be(self):
        # Twice; to the house itself; to a house that there is not; too few to hang together, and a ring.
        self.unread(read_village, ["0-1 0-1", "0-1 1-0", "0-1 1-2 1-2", "0-1 0-1 1-2"])
        self.unread(read_village, ["0-0", "1-1", "0-1 1-1", "0-1 2-2"])
        self.unread(read_village, ["0-2", "1-2", "2-3", "0-1 1-3", "0-1 1-2 1-4", "0-999999999", ROW + " 39-41"])
        self.unread(read_village, ["0-1 2-3", "0-1 2-3 3-4", "0-1 0-2 1-2", "0-1 0-3 1-3", ROW[4:]])
        self.unread(read_village, [STAR[:-6] + " 37-38", STAR + " 38-39"])

    def test_one_and_none(self):
        self.unread(read_village, ["One", "ONE", "onE", "on", "onee", "none", "ones", "one one", "one, one", "0"])
        self.unread(read_village, ["one 0-1", "0-1 one", "one-one", "0-one", "one-1", "oneone", "one\n"])


class ReportsRead(Reading):
    def taken(self, text, roads, told):
        heard = read_reports(text)
        self.assertIs(type(heard), Reports)
        self.assertEqual(heard, heard_of(roads, told))
        self.assertEqual(heard.village(), Village(roads))
        self.assertEqual(show_reports(heard), text)

    def test_without_any(self):
        self.taken("one: none", [], [])
        self.taken("0-1: none", [(0, 1)], [])
        self.taken(ROW + ": none", row_of(40), [])
        self.assertEqual(read_reports("0-1: none").reports(), [])

    def test_one_report(self):
        self.taken("one: 0>0", [], [(0, 0)])
        self.taken("0-1: 1>0", [(0, 1)], [(1, 0)])
        self.taken(STAR + ": 39>20", STAR_ROADS, [(39, 20)])
        self.assertEqual(read_reports("0-1: 1>0").reports(), [(1, 0)])

    def test_several_reports(self):
        self.taken("0-1 1-2: 0>2, 1>1, 2>0", row_of(3), [(2, 0), (0, 2), (1, 1)])
        self.taken("0-1 1-2: 0>1, 1>1, 2>1", row_of(3), [(0, 1), (1, 1), (2, 1)])

    def test_forty_reports(self):
        self.taken(STAR + ": " + TURNED, STAR_ROADS, list(enumerate(TURNED_TALE)))
        self.taken(ROW + ": " + MIRROR, row_of(40), [(x, 39 - x) for x in range(40)])

    def test_what_is_read_goes_on_as_any_other(self):
        heard = read_reports("0-1 1-2: 0>2, 1>1")
        self.refused(Clash, ((0, 1), (0, 2)), heard.tell, 0, 1)
        heard.tell(2, 0)
        heard.take_back(1, 1)
        self.assertEqual(show_reports(heard), "0-1 1-2: 0>2, 2>0")

    def test_a_new_one_each_time(self):
        for text in ["0-1 1-2: none", "0-1 1-2: 0>0"]:
            one = read_reports(text)
            other = read_reports(text)
            self.assertEqual(one, other)
            one.tell(2, 1)
            self.assertNotEqual(one, other)
            self.assertEqual(show_reports(other), text)
            self.assertEqual(show_reports(read_reports(text)), text)

    def test_no_other_reader_reads_these(self):
        texts = ["one: none", "one: 0>0", "0-1: none", "0-1: 0>1, 1>0", ROW + ": none", STAR + ": " + TURNED]
        self.read_alone(read_reports, texts)

    def test_nothing_and_blanks(self):
        self.unread(read_reports, ["", " ", " one: none", "one: none ", "one : none", "one:  none", "o ne: none"])
        self.unread(read_reports, [" 0-1: 0>0", "0-1: 0>0 ", "0-1 : 0>0", "0-1:  0>0", "0 -1: 0>0", "0- 1: 0>0"])
        self.unread(read_reports, ["0-1  1-2: 0>0", "0-1: 0 >0", "0-1: 0> 0", "0-1: 0>0 , 1>1", "0-1: 0>0,  1>1"])

    def test_colons(self):
        self.unread(read_reports, ["one", "0-1", "one:", "one: ", "0-1:", "0-1: ", ":", ": ", ": none", ": 0>0"])
        self.unread(read_reports, ["one none", "one, none", "onenone", "0-1 0>0", "0-1, 0>0", "one; none", "one. none"])
        self.unread(read_reports, ["one:none", "0-1:0>0", "0-1:\t0>0", "one:\nnone", "one:: none", "one: : none"])
        self.unread(read_reports, ["one: none: none", "one: none:", "one: none: ", ": one: none"])
        self.unread(read_reports, ["one: one: none", "0-1: 0>0: 1>1", "0-1: 0>0:", "0-1: 0>0: "])
        self.unread(read_reports, ["0-1: : 0>0", "0-1:: 0>0", "0-1: 0:0", "0-1: 0>0, 1:1"])

    def test_commas(self):
        self.unread(read_reports, ["0-1: 0>0,1>1", "0-1: 0>0 1>1", "0-1: 0>0, 1>1,", "0-1: 0>0, 1>1, ", "0-1: 0>0,"])
        self.unread(read_reports, ["0-1: 0>0, ", "0-1: , 0>0", "0-1: ,", "0-1: , "])
        self.unread(read_reports, ["0-1: 0>0,, 1>1", "0-1: 0>0, , 1>1", "0-1,: 0>0", "0-1, 1-2: 0>0"])
        self.unread(read_reports, ["0-1: 0>0; 1>1", "0-1: 0>01>1", "0-1 1-2: 0>0, 1>1,2>2", "0-1 1-2: 0>0,1>1, 2>2"])

    def test_none_and_one(self):
        self.unread(read_reports, ["one: None", "one: NONE", "one: no", "one: nonee", "one: one", "none: none", "none"])
        self.unread(read_reports, ["one: none, 0>0", "one: 0>0, none", "one: none 0>0", "one: 0>0 none", "one: none,"])
        self.unread(read_reports, ["one: none none", "one: none, none", "one: none>none", "0-1: none, 0>0, 1>1"])
        self.unread(read_reports, ["One: none", "ONE: 0>0", "one 0-1: none", "0-1 one: none", "one one: none"])

    def test_noughts_ahead_and_ten_figures(self):
        self.unread(read_reports, ["00-1: none", "0-01: none", "one: 00>0", "one: 0>00", "0-1: 01>0", "0-1: 0>01"])
        self.unread(read_reports, ["one: 0>0000000000", "one: 0>1000000000", "one: 1000000000>0", "0-1: 0>0000000001"])
        self.unread(read_reports, ["0-1: 000000001>0", "0-1000000000: none", "one: 0>" + "0" * 3900])

    def test_signs_that_are_no_figures(self):
        self.unread(read_reports, ["one: -0>0", "one: 0>-0", "one: 0>+0", "0-1: 0>-1", "0-1: +1>0", "one: 0>0_0"])
        self.unread(read_reports, ["one: 0_>0", "one: 0>0.", "one: 0.0>0", "one: a>0", "one: 0>a", "one: 0"])
        self.unread(read_reports, ["one: 0>", "one: >0", "one: >", "one: 0>>0", "one: 0>0>0", "one: 0>0>", "one: 0-0"])
        self.unread(read_reports, ["one: 0<0", "0>1: none", "0-1: 0=0", "0-1: 0->1", "one: none\n"])
        self.unread(read_reports, ["one: 0>0\n", "one: 0>0\t"])

    def test_signs_beyond_ascii(self):
        self.unread(read_reports, ["one: \u0660>0", "0-1: 0>\u00b9", "one\uff1a none", "one:\u00a0none"])
        self.unread(read_reports, ["0\u20111: none"])

    def test_villages_that_cannot_be(self):
        for roads in ["", "1-0", "0-0", "0-2", "0-1 0-1", "1-2 0-1", "0-1 2-3", "0-1 0-2 1-2", "0-1 1-3", "0-1 "]:
            self.unread(read_reports, [roads + ": none", roads + ": 0>0", roads + ": 9>9"])

    def test_reports_not_in_order(self):
        self.unread(read_reports, ["0-1: 1>1, 0>0", "0-1: 1>0, 0>0", "0-1 1-2: 0>0, 2>2, 1>1", "0-1 1-2: 2>0, 0>2"])
        text = "0-1 0-2 0-3 0-4 0-5 0-6 0-7 0-8 0-9 0-10: 1>1, 10>10, 2>2"
        self.unread(read_reports, [text])
        self.unread(read_reports, [ROW + ": " + ", ".join(MIRROR.split(", ")[::-1])])

    def test_reports_twice(self):
        self.unread(read_reports, ["one: 0>0, 0>0", "0-1: 0>1, 0>1", "0-1: 0>1, 0>1, 1>0", "0-1: 0>1, 1>0, 0>1"])
        self.unread(read_reports, [ROW + ": " + MIRROR + ", 39>0"])

    def test_houses_that_there_are_not(self):
        self.unread(read_reports, ["one: 0>1", "one: 1>0", "one: 1>1", "0-1: 0>2", "0-1: 2>0", "0-1: 0>0, 2>2"])
        self.unread(read_reports, ["0-1: 0>999999999", ROW + ": 40>0", ROW + ": 0>40"])

    def test_reports_that_clash(self):
        self.unread(read_reports, ["0-1: 0>0, 0>1", "0-1 1-2: 0>0, 1>2", "0-1 1-2: 1>0, 2>2", "0-1 0-2: 0>1, 1>2"])
        self.unread(read_reports, ["0-1 1-2: 0>0, 1>1, 1>2", ROW + ": " + MIRROR[:-4] + "39>1, 39>2"])


class Tales(Reading):
    def taken(self, text, tale):
        told = read_tale(text)
        self.assertIs(type(told), list)
        self.assertEqual({type(house) for house in told}, {int})
        self.assertEqual(told, tale)
        self.assertEqual(show_tale(told), text)

    def test_one_house(self):
        self.taken("0", [0])
        self.taken("7", [7])

    def test_many_houses(self):
        self.taken("2 1 0", [2, 1, 0])
        self.taken("1 1 1 0 12", [1, 1, 1, 0, 12])
        self.taken(show_tale(TURNED_TALE), TURNED_TALE)
        self.taken("10 " * 300 + "10", [10] * 301)

    def test_no_village_is_asked(self):
        self.taken("40 0 1000", [40, 0, 1000])
        self.taken("5 3", [5, 3])

    def test_numbers_of_nine_figures(self):
        self.taken("999999999", [999999999])
        self.taken("100000000 0 123456789", [100000000, 0, 123456789])

    def test_a_new_one_each_time(self):
        told = read_tale("2 1 0")
        told.append(9)
        self.assertEqual(read_tale("2 1 0"), [2, 1, 0])

    def test_no_other_reader_reads_these(self):
        self.read_alone(read_tale, ["0", "1", "0 1", "2 1 0", "999999999", "10 " * 300 + "10"])

    def test_without_houses_and_blanks(self):
        self.unread(read_tale, ["", " ", "  ", " 0", "0 ", "0  1", " 0 1", "0 1 ", "0 1  ", " " * 4000])

    def test_noughts_ahead(self):
        self.unread(read_tale, ["00", "01", "0 01", "00 1", "1 000", "012345678", "0 1 02", "000000000"])

    def test_ten_figures(self):
        self.unread(read_tale, ["1000000000", "0 1000000000", "9999999999 0", "0000000001", "0000000000"])
        self.unread(read_tale, ["1" * 3999, "0 " + "9" * 3998, "1" * 5000])

    def test_signs_that_are_no_figures(self):
        self.unread(read_tale, ["-1", "-0", "+1", "0 -1", "0 +1", "1_0", "_1", "1_", "1.0", ".", "1."])
        self.unread(read_tale, ["0.1", "-", "+", "_", "0,1", "0, 1", "0-1", "0>1", "0:1", "a", "0 a"])
        self.unread(read_tale, ["1e3", "0x1", "1 l", "O", "'0'", "[0]", "0\n", "\n0", "0\n1", "0\t1", "0 1\n", "0\r"])
        self.unread(read_tale, ["0\x0b1", "0\x001", "one", "none"])

    def test_signs_beyond_ascii(self):
        self.unread(read_tale, ["\u0661", "1\u0661", "\u00b2", "\uff11", "0 \u0967", "0\u00a01"])
        self.unread(read_tale, ["\u22121", "\u00bd", "\u4e00"])


class Refusals(Reading):
    def test_each_is_a_village_error_and_a_value_error_and_no_other(self):
        for read in [read_village, read_reports, read_tale]:
            for text in ["", "x", "0-0", "0-1 0-1", "0-1: 0>2", "0-1: 0>0, 0>1", "0-1: 0>0, 0>0", "00", "1 -1"]:
                with self.assertRaises(NoText) as caught:
                    read(text)
                self.assertIs(type(caught.exception), NoText)
                self.assertIsInstance(caught.exception, VillageError)
                self.assertIsInstance(caught.exception, ValueError)
                self.assertNotIsInstance(caught.exception, OTHERS)
                self.assertIs(type(caught.exception.what), str)
                self.assertEqual(caught.exception.what, text)

    def test_the_whole_text_is_told(self):
        self.refused(NoText, "0-1 1-1: 0>0, 1>1", read_reports, "0-1 1-1: 0>0, 1>1")
        self.refused(NoText, ROW + ": 0>00", read_reports, ROW + ": 0>00")
        self.refused(NoText, "5 4 3 2 1 00", read_tale, "5 4 3 2 1 00")

    def test_what_is_refused_changes_nothing_that_was_read(self):
        heard = read_reports("0-1: 0>0")
        self.refused(NoText, "0-1: 0>0, 0>1", read_reports, "0-1: 0>0, 0>1")
        self.assertEqual(heard, read_reports("0-1: 0>0"))


class ReadBack(Reading):
    def test_greater_ones_are_read_back(self):
        chance = random.Random(18)
        for many in [2, 9, 20, 40] * 15:
            roads = grown(chance, many)
            tale = some_tale(chance, roads)
            heard = heard_of(roads, [(x, tale[x]) for x in chance.sample(range(many), chance.randrange(many + 1))])
            self.assertEqual(read_village(show_village(Village(roads))), Village(roads))
            self.assertEqual(read_reports(show_reports(heard)), heard)
            self.assertEqual(read_tale(show_tale(tale)), tale)

    def test_quick_enough(self):
        heard = STAR + ": " + TURNED
        longest = show_village(Village(row_of(530)))
        self.assertGreater(len(longest), 4000)
        for read, text in [
            (read_village, STAR),
            (read_village, longest),
            (read_reports, heard),
            (read_reports, longest + ": none"),
            (read_tale, "999999999 " * 399 + "999999999"),
            (read_tale, "7 " * 1999 + "7"),
        ]:
            read(text)
            self.assertLess(seconds(lambda: read(text)), 0.005)

    def test_quick_enough_where_it_is_refused(self):
        rows = show_village(Village(row_of(530)))
        for read in [read_village, read_reports, read_tale]:
            for text in [
                "0-1 " * 999 + "0-1",
                rows + " 0-5",
                rows + " 530-532",
                rows + ": 0>0, 0>1",
                STAR + ": " + TURNED + ", 39>0" * 600,
                "7 " * 1999 + "07",
                "9" * 4000,
                " " * 4000,
                ": " * 2000,
                "-" * 4000,
            ]:
                self.unread(read, [text])
                self.assertLess(seconds(lambda: self.assertRaises(NoText, read, text)), 0.005)


if __name__ == "__main__":
    unittest.main()
