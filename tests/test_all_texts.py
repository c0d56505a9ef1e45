"""[17]: the three readers, held against a separate reading: all short texts, and texts with one sign wrong."""

import random
import unittest
from itertools import product

from asking import Asking
from movedays.errors import NoText
from movedays.readings import read_reports, read_tale, read_village
from movedays.texts import show_reports, show_tale, show_village
from text_by_hand import MIRROR, ROW, reports_by_hand, roads_by_hand, tale_by_hand

SIGNS = [chr(number) for number in range(ord(" "), ord("~") + 1)] + ["\n", "\u0661", "\u00b2", "\uff10", "\u00a0"]
TEXTS = [
    "one",
    "0-1",
    "0-3 1-3 2-3",
    "0-1 0-2 0-3 0-4 0-5 0-6 0-7 0-8 0-9 0-10",
    "one: none",
    "one: 0>0",
    "0-1 1-2: none",
    "0-1 1-2: 0>2, 1>1, 2>0",
    "0",
    "12 0 7",
    "100000000 987654321",
]


def wrong_by_one(text):
    """The text with one sign more, one less, one other, or two side by side changed about."""
    for at in range(len(text) + 1):
        head, tail = text[:at], text[at:]
        yield head + tail[1:]
        yield head + tail[1:2] + tail[:1] + tail[2:]
        for sign in SIGNS:
            yield head + sign + tail
            yield head + sign + tail[1:]


class AllTexts(Asking):
    def read_or_refused(self, read, text):
        """What is read, or None."""
        try:
            return read(text)
        except NoText as refusal:
            self.assertEqual((type(refusal), refusal.what), (NoText, text))
            return None

    def hold(self, text):
        """Hold all three readers against the words; how many of them read the text."""
        village = self.read_or_refused(read_village, text)
        roads = roads_by_hand(text)
        self.assertEqual(None if village is None else village.roads(), roads, text)
        heard = self.read_or_refused(read_reports, text)
        told = None if heard is None else (heard.village().roads(), heard.reports())
        self.assertEqual(told, reports_by_hand(text), text)
        tale = self.read_or_refused(read_tale, text)
        self.assertEqual(tale, tale_by_hand(text), text)
        back = []
        if village is not None:
            back.append(show_village(village))
        if heard is not None:
            back.append(show_reports(heard))
        if tale is not None:
            back.append(show_tale(tale))
        # Read by one at most, and then written as that very text.
        self.assertIn(back, ([], [text]))
        return len(back)

    def hold_all(self, texts):
        return sum([self.hold(text) for text in texts])

    def test_each_text_is_read_by_just_one(self):
        for text in TEXTS:
            self.assertEqual(self.hold(text), 1)

    def test_all_short_texts_of_figures_and_blanks(self):
        read = self.hold_all("".join(signs) for many in range(7) for signs in product("012 ", repeat=many))
        self.assertGreater(read, 500)

    def test_all_short_texts_of_roads(self):
        read = self.hold_all("".join(signs) for many in range(8) for signs in product("012- ", repeat=many) if many > 4)
        self.assertGreater(read, 100)

    def test_all_reports_of_a_few_signs(self):
        for village in ["one", "0-1", "0-1 1-2", "1-0", "0-2"]:
            for many in range(6):
                self.hold_all(village + ": " + "".join(signs) for signs in product("012>, ", repeat=many))

    def test_all_rows_of_up_to_three_roads(self):
        roads = [f"{x}-{y}" for x in range(4) for y in range(4)]
        read = self.hold_all(" ".join(row) for many in range(1, 4) for row in product(roads, repeat=many))
        # One village of two houses, three of three and sixteen of four; each is written in just one way.
        self.assertEqual(read, 1 + 3 + 16)

    def test_all_rows_of_up_to_three_reports(self):
        told = [f"{x}>{y}" for x in range(4) for y in range(3)]
        for many in range(1, 4):
            self.hold_all("0-1 1-2: " + ", ".join(row) for row in product(told, repeat=many))

    def test_texts_with_one_sign_wrong(self):
        for text in TEXTS:
            self.hold_all(wrong_by_one(text))

    def test_greater_texts_with_some_signs_wrong(self):
        chance = random.Random(19)
        for text in [ROW, ROW + ": " + MIRROR, ROW + ": none"]:
            for _ in range(400):
                signs = list(text)
                for _ in range(chance.randrange(1, 3)):
                    at = chance.randrange(len(signs))
                    signs[at:at + chance.randrange(2)] = [chance.choice(chance.choice([SIGNS, list("0123- ,:>")]))]
                self.hold("".join(signs))


if __name__ == "__main__":
    unittest.main()
