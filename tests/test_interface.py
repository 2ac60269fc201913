"""The interface of DOC.md: all its names are there, and take as many arguments by place as it tells."""

import importlib
import inspect
import unittest

INTERFACE = {
    "fractions": "is_fraction/1 fraction_of/2 added/2 taken_off/2 multiplied/2 divided/2 is_less/2",
    "halls": "is_hall/1 right_hall/1 is_alike/1 all_lines/1 hall_turned/2",
    "halllines": "hall_lines/1 read_hall/1",
    "rules": "is_rule/2 sent_to/4",
    "ruletexts": "rule_text/1 read_rule/2",
    "moves": "first_stand/1 is_stand/3 is_move/2 is_run/2 all_orders/1 moved_on/4",
    "runs": "walked/3 counted/3 stays/3",
    "turnings": "left_by_turn/3 stands_coming/2 left_by_turns/3",
    "sharechecker": "lets_shares/3",
    "sharing": "shares_of/2",
    "measures": "how_many/2 share_away/2 served_each/2 stay_of/2 busy_of/2 held_against/3 means_of/3",
    "worths": "worths_of/4 price_of/5 look_ahead/4",
    "bestchecker": "lets_best/4",
    "bests": "best_paper/3",
    "neverchecker": "kept_lines/2 lets_never/4",
    "nevers": "never_worse/3 standings/1 between/1",
    "paperlines": "run_text/1 read_run/2 paper_lines/1 read_paper/2",
}
CLASSES = {
    ("floors", "Floor", 2): "go/1 back/0 stand_now/0 counts_now/0 run_so_far/0 askers/0",
    ("desk", "Desk", 0): "say/1",
}


def places_of(thing):
    """How many arguments are handed in by place, all of them asked for."""
    parameters = inspect.signature(thing).parameters.values()
    assert all(one.kind is one.POSITIONAL_OR_KEYWORD and one.default is one.empty for one in parameters)
    return len(parameters)


def told(names):
    for name in names.split(" "):
        name, many = name.split("/")
        yield name, int(many)


class InterfaceTest(unittest.TestCase):
    def test_functions(self):
        for module, names in INTERFACE.items():
            module = importlib.import_module(f"shorterline.{module}")
            for name, many in told(names):
                function = getattr(module, name)
                self.assertEqual(function.__module__, module.__name__)
                self.assertEqual(places_of(function), many, name)

    def test_classes(self):
        for (module, name, many), methods in CLASSES.items():
            kind = getattr(importlib.import_module(f"shorterline.{module}"), name)
            self.assertEqual(places_of(kind), many)
            for method, many_more in told(methods):
                self.assertEqual(places_of(getattr(kind, method)), many_more + 1, method)


if __name__ == "__main__":
    unittest.main()
