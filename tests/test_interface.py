"""The interface: names, arguments, and where each is defined."""

import inspect
import unittest

from movedays import errors, homes, moves, readings, reports, rounds, tales, texts, villages

METHODS = {
    (villages, "Village"): {
        "__init__": ["roads"],
        "__eq__": ["other"],
        "__ne__": ["other"],
        "houses": [],
        "roads": [],
        "way": ["x", "y"],
        "apart": ["x", "y"],
        "ball": ["y", "r"],
        "middle": ["some"],
    },
    (reports, "Reports"): {
        "__init__": ["village"],
        "__eq__": ["other"],
        "__ne__": ["other"],
        "village": [],
        "tell": ["x", "y"],
        "take_back": ["x", "y"],
        "reports": [],
        "may_live": ["x"],
        "may": ["choices"],
        "near": ["x", "z"],
    },
}

FUNCTIONS = {
    moves: {"least_move": ["reports", "x"], "laziest": ["reports"], "nearest": ["reports", "t"]},
    homes: {
        "may_be_home": ["reports"],
        "surely_home": ["reports"],
        "changed": ["reports"],
        "home_paper": ["reports", "c"],
        "moved_paper": ["reports", "c"],
    },
    tales: {
        "is_tale": ["village", "tale"],
        "at_home": ["village", "tale"],
        "changed_in": ["village", "tale"],
        "gone_on": ["village", "tale", "times"],
        "meet": ["village", "tale", "x", "z"],
    },
    rounds: {"rounds": ["reports"]},
    texts: {"show_village": ["village"], "show_reports": ["reports"], "show_tale": ["tale"]},
    readings: {"read_village": ["text"], "read_reports": ["text"], "read_tale": ["text"]},
}


class Interface(unittest.TestCase):
    def test_methods_stand_in_the_class_itself_with_the_told_arguments(self):
        for (module, name), methods in METHODS.items():
            told = getattr(module, name)
            for method, arguments in methods.items():
                self.assertIn(method, vars(told), (name, method))
                names = list(inspect.signature(vars(told)[method]).parameters)
                self.assertEqual(names, ["self"] + arguments, (name, method))

    def test_classes_are_defined_in_their_own_files(self):
        for module, name in METHODS:
            self.assertEqual(getattr(module, name).__module__, module.__name__)
        for name in ["VillageError", "NoRoad", "NoHouse", "Clash", "NoReport", "NoTale", "NoDays", "NoText"]:
            self.assertEqual(getattr(errors, name).__module__, "movedays.errors")

    def test_functions_stand_in_their_own_files_with_the_told_arguments(self):
        for module, functions in FUNCTIONS.items():
            for name, arguments in functions.items():
                told = getattr(module, name)
                self.assertTrue(inspect.isfunction(told), name)
                self.assertEqual(told.__module__, module.__name__, name)
                self.assertEqual(list(inspect.signature(told).parameters), arguments, name)

    def test_arguments_of_functions_by_the_told_names(self):
        village = villages.Village([(0, 1), (1, 2)])
        heard = reports.Reports(village)
        heard.tell(0, 2)
        self.assertEqual(moves.least_move(x=0, reports=heard), 2)
        self.assertEqual(moves.laziest(reports=heard), [2, 1, 2])
        self.assertEqual(moves.nearest(t=0, reports=heard), [2, 1, 0])
        self.assertEqual(homes.may_be_home(reports=heard), [1, 2])
        self.assertEqual(homes.surely_home(reports=heard), [])
        self.assertIsNone(homes.changed(reports=heard))
        self.assertIsNone(homes.home_paper(c=1, reports=heard))
        self.assertEqual(homes.moved_paper(c=0, reports=heard), (0, 2))
        self.assertIs(tales.is_tale(tale=[2, 1, 0], village=village), True)
        self.assertEqual(tales.at_home(tale=[2, 1, 0], village=village), [1])
        self.assertEqual(tales.changed_in(tale=[1, 0, 1], village=village), (0, 1))
        self.assertEqual(tales.gone_on(times=2, tale=[2, 1, 0], village=village), [0, 1, 2])
        self.assertEqual(tales.meet(z=2, x=0, tale=[1, 0, 1], village=village), 1)
        self.assertEqual(rounds.rounds(reports=heard), [])
        self.assertEqual(texts.show_village(village=village), "0-1 1-2")
        self.assertEqual(texts.show_reports(reports=heard), "0-1 1-2: 0>2")
        self.assertEqual(texts.show_tale(tale=[2, 1, 0]), "2 1 0")
        self.assertEqual(readings.read_village(text="0-1 1-2"), village)
        self.assertEqual(readings.read_reports(text="0-1 1-2: 0>2"), heard)
        self.assertEqual(readings.read_tale(text="2 1 0"), [2, 1, 0])

    def test_arguments_by_the_told_names(self):
        village = villages.Village(roads=[(0, 1), (1, 2)])
        self.assertEqual(village.way(x=2, y=0), [2, 1, 0])
        self.assertEqual(village.apart(y=0, x=2), 2)
        self.assertEqual(village.ball(r=1, y=0), [0, 1])
        self.assertEqual(village.middle(some=[0, 2]), (1,))
        heard = reports.Reports(village=village)
        heard.tell(x=0, y=2)
        heard.tell(y=2, x=1)
        self.assertEqual(heard.reports(), [(0, 2), (1, 2)])
        heard.take_back(y=2, x=1)
        self.assertEqual(heard.reports(), [(0, 2)])
        self.assertEqual(heard.may_live(x=1), [1, 2])
        self.assertIs(heard.may(choices=[(1, 1)]), True)
        self.assertEqual(heard.near(z=2, x=0), (0, 2))


if __name__ == "__main__":
    unittest.main()
