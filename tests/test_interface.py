import importlib
import inspect
import unittest

# For each file, its functions with their parameters, and its classes with those of their methods.
INTERFACE = {
    "letters": {name: "thing" for name in ("is_integer", "is_letter", "is_text", "is_side", "is_script", "is_promise",
                                           "is_pair", "is_going_on")},
    "prices": {"Prices": {"__init__": "table", "__eq__": "other", "drop": "letter", "put": "letter", "drops": "text",
                          "puts": "text", "table": "", "turned": ""}},
    "lanes": {"Lane": {"__init__": "", "__eq__": "other", "receive": "place text", "close": "length", "head": "",
                       "gaps": "", "told_length": "", "known": "", "is_whole": "", "twin": ""}},
    "scripts": {"points": "script", "kept": "script", "widest": "script", "is_allowed": "script promise",
                "fits": "script left right", "turned": "script", "price": "script left right prices"},
    "grids": {name: "left right prices promise" for name in ("grid", "least", "least_script", "least_many")},
    "papers": {"heights": "left right prices promise", "is_bound": "left right prices promise rows",
               "is_least": "left right prices promise script rows"},
    "standings": {"Standing": {"__init__": "prices promise", "grow": "side text", "close": "side", "head": "side",
                               "is_open": "side", "prices": "", "promised": "", "twin": "", "least": "", "rim": ""},
                  "echo": "standing point", "price_behind": "standing going_on"},
    "tips": {"tips": "standing", "form": "standing", "alike": "one other", "parting": "one other"},
    "orders": {"greatest_difference": "one other"},
    "nearest": {"Nearest": {"__init__": "prices elders", "grow": "text", "right": "", "can_be_nearest": "",
                            "loss_of": "index"}},
    "sayings": {"is_saying": "thing", "holds": "saying standing script", "atoms": "saying"},
}


def parameters(thing):
    return list(inspect.signature(thing).parameters)


class Interface(unittest.TestCase):
    """The section "The interface" of the document; test_errors.py has the errors."""

    def test_functions(self):
        for file, things in INTERFACE.items():
            module = importlib.import_module("saidearly." + file)
            for name, wanted in things.items():
                thing = vars(module)[name]
                self.assertEqual(thing.__module__, "saidearly." + file)
                if isinstance(wanted, str):
                    self.assertTrue(inspect.isfunction(thing), name)
                    self.assertEqual(parameters(thing), wanted.split(), name)

    def test_classes(self):
        for file, things in INTERFACE.items():
            module = importlib.import_module("saidearly." + file)
            for name, methods in things.items():
                if isinstance(methods, dict):
                    made = vars(module)[name]
                    self.assertTrue(inspect.isclass(made), name)
                    for method, wanted in methods.items():
                        self.assertTrue(inspect.isfunction(vars(made)[method]), (name, method))
                        self.assertEqual(parameters(vars(made)[method])[1:], wanted.split(), (name, method))

    def test_nothing_has_a_default(self):
        for file, things in INTERFACE.items():
            module = importlib.import_module("saidearly." + file)
            for name in things:
                for parameter in inspect.signature(vars(module)[name]).parameters.values():
                    self.assertIs(parameter.default, parameter.empty)
                    self.assertIs(parameter.kind, parameter.POSITIONAL_OR_KEYWORD)


if __name__ == "__main__":
    unittest.main()
