"""The interface: names, arguments, and where each is defined."""

import inspect
import unittest

from movedays import errors, reports, villages

METHODS = {
    (villages, "Village"): {
        "__init__": ["roads"],
        "__eq__": ["other"],
        "__ne__": ["other"],
        "houses": [],
        "roads": [],
        "way": ["x", "y"],
        "apart": ["x", "y"],
        "ball": ["y", "r"],
        "middle": ["some"],
    },
    (reports, "Reports"): {
        "__init__": ["village"],
        "__eq__": ["other"],
        "__ne__": ["other"],
        "village": [],
        "tell": ["x", "y"],
        "take_back": ["x", "y"],
        "reports": [],
        "may_live": ["x"],
        "may": ["choices"],
        "near": ["x", "z"],
    },
}


class Interface(unittest.TestCase):
    def test_methods_stand_in_the_class_itself_with_the_told_arguments(self):
        for (module, name), methods in METHODS.items():
            told = getattr(module, name)
            for method, arguments in methods.items():
                self.assertIn(method, vars(told), (name, method))
                names = list(inspect.signature(vars(told)[method]).parameters)
                self.assertEqual(names, ["self"] + arguments, (name, method))

    def test_classes_are_defined_in_their_own_files(self):
        for module, name in METHODS:
            self.assertEqual(getattr(module, name).__module__, module.__name__)
        for name in ["VillageError", "NoRoad", "NoHouse", "Clash", "NoReport", "NoTale", "NoDays", "NoText"]:
            self.assertEqual(getattr(errors, name).__module__, "movedays.errors")

    def test_arguments_by_the_told_names(self):
        village = villages.Village(roads=[(0, 1), (1, 2)])
        self.assertEqual(village.way(x=2, y=0), [2, 1, 0])
        self.assertEqual(village.apart(y=0, x=2), 2)
        self.assertEqual(village.ball(r=1, y=0), [0, 1])
        self.assertEqual(village.middle(some=[0, 2]), (1,))
        heard = reports.Reports(village=village)
        heard.tell(x=0, y=2)
        heard.tell(y=2, x=1)
        self.assertEqual(heard.reports(), [(0, 2), (1, 2)])
        heard.take_back(y=2, x=1)
        self.assertEqual(heard.reports(), [(0, 2)])
        self.assertEqual(heard.may_live(x=1), [1, 2])
        self.assertIs(heard.may(choices=[(1, 1)]), True)
        self.assertEqual(heard.near(z=2, x=0), (0, 2))


if __name__ == "__main__":
    unittest.main()
