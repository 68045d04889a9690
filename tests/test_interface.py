"""The names and arguments of the document's interface are there as they stand."""

import importlib
import inspect
import unittest

FUNCTIONS = {
    "masks": {"ones": ["mask"], "odd": ["mask"], "bits": ["mask"], "mask_of": ["places"]},
    "ties": {"tie_of": ["one", "two", "signed"]},
    "darts": {
        "tail": ["ties", "dart"],
        "head": ["ties", "dart"],
        "follower": ["ties", "turns", "dart"],
        "rounds_of": ["ties", "turns"],
        "sides_of": ["ties", "rounds"],
    },
    "texts": {"written": ["web"], "read": ["text"]},
    "layings": {
        "unpleased": ["web", "laying"],
        "worth": ["web", "laying"],
        "odd_rounds": ["web"],
        "odd_at": ["web", "ties", "number"],
        "laying_of": ["web", "ties"],
    },
    "patches": {"rim": ["web", "patch"], "gain": ["web", "laying", "patch"], "pieces": ["web", "patch"]},
    "other": {"links_of": ["web"]},
    "fares": {
        "fares": ["many", "links", "start"],
        "row_to": ["links", "via", "room"],
        "whole": ["many", "links"],
    },
    "pairing": {
        "odd_ends": ["links", "used"],
        "paired": ["many", "links", "marks"],
        "heights": ["many", "links", "marks"],
    },
    "hills": {"hills": ["many", "links", "marks"]},
    "examiner": {"examined": ["many", "links", "marks", "used", "paper"]},
    "least": {"least": ["web"], "certain": ["web", "laying", "paper"]},
    "roofs": {"with_pull": ["web", "number", "pull"], "roof": ["web", "number"], "at_pull": ["pair", "pull"]},
    "alike": {"both_ways": ["web"], "set_ties": ["web"]},
    "allleast": {
        "tight_ties": ["web", "paper"],
        "all_least": ["web", "most"],
        "free_steps": ["web", "one", "two"],
    },
    "fronts": {"fronts": ["web", "order"]},
    "tables": {"front_table": ["web", "order", "count"], "least_many": ["web", "order"]},
    "worths": {"worths": ["web", "order"]},
    "powers": {"tables_joined": ["one", "two", "modulus"], "table_power": ["table", "times", "modulus"]},
    "strips": {"step_table": ["pattern"], "strip_least": ["pattern", "columns", "modulus"]},
    "longrun": {"long_run": ["pattern"]},
    "climbs": {
        "climb": ["web", "start", "goal"],
        "shore": ["web", "start", "height"],
        "falls": ["web", "start"],
        "resting": ["web"],
    },
    "stripwebs": {"strip_web": ["pattern", "columns"]},
    "answers": {"shown": ["found"], "taken": ["text"], "settles": ["web", "text"], "answer": ["text"]},
}
MADE_WITH = {
    "errors": {"BadText": ["at"], "NoLaying": ["at"]},
    "ties": {kind: ["one", "two", "strength"] for kind in ["Tie", "Pull", "Push"]},
    "webs": {"Web": ["many", "ties", "turns"]},
    "desk": {"Desk": ["text"]},
}
TIE_METHODS = {"wish": [], "unpleased": ["laying"], "price": ["laying"], "signed": [], "across": ["place"]}

DESK_METHODS = {"do": ["row"], "left": [], "text": [], "answer": [], "roof": ["number"]}


def found(module, name):
    return getattr(importlib.import_module("spinfloor." + module), name)


class Interface(unittest.TestCase):
    def holds(self, told, arguments):
        self.assertEqual(list(inspect.signature(told).parameters), arguments)

    def test_functions(self):
        for module, names in FUNCTIONS.items():
            for name, arguments in names.items():
                self.holds(found(module, name), arguments)

    def test_makings(self):
        for module, names in MADE_WITH.items():
            for name, arguments in names.items():
                self.holds(found(module, name).__init__, ["self"] + arguments)

    def test_methods_of_ties(self):
        for kind in ["Tie", "Pull", "Push"]:
            for name, arguments in TIE_METHODS.items():
                self.holds(getattr(found("ties", kind), name), ["self"] + arguments)

    def test_methods_of_the_desk(self):
        for name, arguments in DESK_METHODS.items():
            self.holds(getattr(found("desk", "Desk"), name), ["self"] + arguments)

    def test_values_where_none_is_handed_in(self):
        told = {("allleast", "all_least"): 64, ("fronts", "fronts"): None, ("tables", "least_many"): None,
                ("worths", "worths"): None}
        for module, names in FUNCTIONS.items():
            for name in names:
                values = [each.default for each in inspect.signature(found(module, name)).parameters.values()]
                empty = inspect.Parameter.empty
                if (module, name) in told:
                    self.assertEqual(values, [empty] * (len(values) - 1) + [told[module, name]])
                else:
                    self.assertEqual(values, [empty] * len(values))


if __name__ == "__main__":
    unittest.main()
