import importlib
import inspect
import unittest

# Each module's functions with the names of what they take.
FUNCTIONS = {
    "names": {"is_name": ["thing"]},
    "spans": {
        "span": ["low_end", "high_end"], "has": ["one", "place"], "meet": ["one", "other"], "less": ["one", "other"],
        "near": ["one", "other"], "hull": ["one", "other"], "length": ["one"],
    },
    "maps": {"knit": ["rows"], "is_map": ["rows"], "formed": ["rows"], "parting": ["one", "other"]},
    "finding": {"value_at": ["pieces", "place"], "run_at": ["pieces", "place"]},
    "putting": {
        "put": ["pieces", "span", "value"], "cut": ["pieces", "span"], "counted": ["pieces", "span", "value"],
        "values_of": ["pieces"],
    },
    "joins": {"joined": ["one", "other", "way"], "turned": ["pieces", "way"], "merged": ["one", "other"]},
    "gaps": {"gaps": ["pieces", "span"], "longest": ["pieces", "span"]},
    "tries": {"first_run": ["pieces", "start", "many", "test"]},
    "rules": {"stretches": ["rule"], "laid": ["rules"]},
    "fewest": {"fewest": ["pieces"]},
    "wheels": {"wheel_of": ["turn", "pieces"], "wheel_at": ["wheel", "place"], "wheel_parting": ["one", "other"]},
    "turning": {
        "wheel_moved": ["wheel", "far"], "wheel_joined": ["one", "other", "way"], "wheel_cut": ["wheel", "span"],
        "wheel_run": ["wheel", "start", "many", "test"],
    },
    "texts": {
        "read_number": ["text"], "read_span": ["text"], "read_map": ["text"], "show_span": ["one"],
        "show_map": ["pieces"], "show_rules": ["rules"],
    },
}
DEED = {"came": ["place"], "went": ["place"], "done": ["pieces"]}
END = {"low": [], "behind": []}
# Each module's classes, with what they are made of and the names of what their methods take.
CLASSES = {
    "ends": {"Shut": (["place"], END), "Open": (["place"], END), "Endless": ([], END)},
    "deeds": {
        "Put": (["span", "value"], DEED), "Widen": (["at", "many"], DEED), "Narrow": (["at", "many"], DEED),
        "Move": (["far"], DEED), "Stretch": (["top", "bottom"], DEED), "Mirror": ([], DEED),
    },
    "lines": {
        "Line": (["pieces"], {"do": ["deed"], "mark": ["name", "place"], "back": [], "again": [], "told": [],
                              "where": ["name"], "marks": []}),
    },
    "bundles": {
        "Bundle": (["names"], {"lay": ["name", "span"], "lift": ["name", "span"], "names_at": ["place"],
                               "only": ["name"], "sets": [], "crowd": ["many"]}),
    },
    "desk": {"Desk": ([], {"say": ["row"]})},
}


class TestInterface(unittest.TestCase):

    def check_takes(self, asked, names):
        self.assertEqual(list(inspect.signature(asked).parameters), names)

    def test_functions(self):
        for module_name, functions in FUNCTIONS.items():
            module = importlib.import_module("spanmap." + module_name)
            for name, names in functions.items():
                asked = getattr(module, name)
                self.assertEqual(asked.__module__, module.__name__)
                self.check_takes(asked, names)

    def test_classes(self):
        for module_name, classes in CLASSES.items():
            module = importlib.import_module("spanmap." + module_name)
            for name, (made_of, methods) in classes.items():
                kind = getattr(module, name)
                self.assertEqual(kind.__module__, module.__name__)
                self.check_takes(kind, made_of)
                for method, names in methods.items():
                    self.check_takes(getattr(kind, method), ["self", *names])

    def test_bases(self):
        for module_name, base_name in (("ends", "End"), ("deeds", "Deed")):
            module = importlib.import_module("spanmap." + module_name)
            base = getattr(module, base_name)
            for name in CLASSES[module_name]:
                self.assertEqual(getattr(module, name).__bases__, (base,))


if __name__ == "__main__":
    unittest.main()
