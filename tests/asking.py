"""What several tests of the program ask in the same way."""

import time
import unittest

from movedays.errors import VillageError
from movedays.reports import Reports
from movedays.villages import Village


def heard_of(roads, told):
    heard = Reports(Village(roads))
    for x, y in told:
        heard.tell(x, y)
    return heard


def seconds(ask, times=20):
    """How long the quickest of some times takes: what else the machine does counts as little as can be."""
    best = None
    for _ in range(times):
        start = time.perf_counter()
        ask()
        took = time.perf_counter() - start
        best = took if best is None else min(best, took)
    return best


class Asking(unittest.TestCase):
    def refused(self, error, what, ask, *told):
        with self.assertRaises(VillageError) as caught:
            ask(*told)
        self.assertIs(type(caught.exception), error)
        self.assertEqual(caught.exception.what, what)
