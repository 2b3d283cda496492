import importlib
import inspect
import unittest

# For each file, its functions with their parameters, and its classes with those of their methods.
INTERFACE = {
    "letters": {name: "thing" for name in ("is_integer", "is_letter", "is_text", "is_side", "is_script", "is_promise",
                                           "is_pair", "is_going_on")},
    "prices": {"Prices": {"__init__": "table", "__eq__": "other", "drop": "letter", "put": "letter", "drops": "text",
                          "puts": "text", "table": "", "turned": ""}},
    "lanes": {"Lane": {"__init__": "", "__eq__": "other", "receive": "place text", "close": "length", "head": "",
                       "gaps": "", "told_length": "", "known": "", "is_whole": "", "twin": ""}},
    "scripts": {"points": "script", "kept": "script", "widest": "script", "is_allowed": "script promise",
                "fits": "script left right", "turned": "script", "price": "script left right prices"},
    "grids": {name: "left right prices promise" for name in ("grid", "least", "least_script", "least_many")},
    "papers": {"heights": "left right prices promise", "is_bound": "left right prices promise rows",
               "is_least": "left right prices promise script rows"},
    "standings": {"Standing": {"__init__": "prices promise", "grow": "side text", "close": "side", "head": "side",
                               "is_open": "side", "prices": "", "promised": "", "twin": "", "least": "", "rim": ""},
                  "echo": "standing point", "price_behind": "standing going_on"},
    "tips": {"tips": "standing", "form": "standing", "alike": "one other", "parting": "one other"},
    "orders": {"greatest_difference": "one other"},
    "nearest": {"Nearest": {"__init__": "prices elders", "grow": "text", "right": "", "can_be_nearest": "",
                            "loss_of": "index"}},
    "sayings": {"is_saying": "thing", "holds": "saying standing script", "atoms": "saying"},
    "extras": {"extra_behind": "standing saying going_on", "greatest_extra": "standing saying",
               "least_extra": "standing saying"},
    "verdicts": {name: "standing saying" for name in ("is_free", "is_possible", "is_sure", "shown_possible",
                                                      "shown_unsure", "free_below")},
    "tails": {"Tails": {"__init__": "prices left right", "left": "", "right": "", "rim": "", "least": ""},
              "extra_with_tails": "standing tails saying tail_saying"},
    "comparer": {"Comparer": {"__init__": "prices promise rooms", "receive": "side place text",
                              "close": "side length", "standing": "", "said": "", "say_free": "", "say_forced": "",
                              "reached": "", "waiting": "side", "bill": "", "loss": ""}},
    "bills": {"rest_least": "left right prices promise point", "loss_of_script": "left right prices promise script",
              "there_and_back": "left right prices point"},
    "rulebooks": {"Rulebook": {"__init__": "window marks rules", "__eq__": "other", "window": "", "marks": "",
                               "rules": ""}},
    "ruletext": {"write_rules": "book", "read_rules": "text"},
    "patterns": {"pattern_of": "left right", "tick_of": "left right x y", "grown": "pattern tick",
                 "cut": "pattern left right", "ticks": "pattern"},
    "speakers": {"Speaker": {"__init__": "book pair", "tick": "x y", "finish": "", "said": "", "waiting": "side",
                             "mark": "", "paid": "", "copied": ""},
                 "spoken": "book pair left right"},
    "machines": {"Machine": {"__init__": "book", "stands": "", "arrows": "", "walk": "left right", "least": "",
                             "parting": "other"}},
    "senders": {"Sender": {"__init__": "places span arrows ends", "places": "", "span": "", "arrows": "", "ends": "",
                           "sends": "left right", "moves": "place pattern"},
                "free_sender": ""},
    "gains": {"loss_of": "book pair lag left right",
              "GainTable": {"__init__": "book pair lag sender", "stands": "", "arrows": "", "closing": "stand",
                            "walk": "left right"}},
    "rings": {"worst_ring": "table", "is_bounded": "table", "heights": "table num den", "greatest_loss": "table"},
    "shown": {"texts_of": "table walk", "texts_round": "table ring rounds"},
    "lossjudge": {"is_height_table": "table rows num den", "is_ring": "table walk", "bound_by": "table rows num den",
                  "mean_of": "table walk"},
    "teaser": {"tease": "book pair blocks"},
    "versus": {"same_scripts": "book other", "dearer": "book other pair",
               "VersusTable": {"__init__": "book other pair", "stands": "", "arrows": "", "walk": "left right",
                               "closing": "stand"}},
    "trims": {"without_rule": "book rule", "needless": "book", "least_window": "book"},
    "games": {"GameTable": {"__init__": "window lag pair", "stands": "", "ticks": "stand", "moves": "stand tick",
                            "closing": "stand", "value": "", "best_move": "stand tick", "best_tick": "stand",
                            "played": "many", "speaker_heights": "", "teaser_heights": ""}},
    "gamejudge": {name: "table rows num den" for name in ("is_speaker_table", "is_teaser_table", "speaker_bound",
                                                          "teaser_bound")},
    "waits": {"waits": "left right pair lag",
              "WaitTable": {"__init__": "sender pair lag", "stands": "", "arrows": "", "rows": "", "steps": "",
                            "ranks": "", "longest": "", "texts": "wait"}},
    "deltas": {"is_delta": "thing", "of_script": "script right", "script_of": "delta", "put_by": "delta",
               "applied": "delta left", "cost": "delta left prices", "back": "delta left", "chained": "one other"},
    "streams": {"written": "delta", "read": "text",
                "Writer": {"__init__": "", "say": "steps text", "close": ""}},
    "book": {"Book": {"__init__": "prices promise rooms", "__eq__": "other", "do": "deed", "heads": "", "said": "",
                      "delta": "", "claims": "", "log": "", "back": "", "again": "", "twin": "", "trial": "deeds"}},
}


def parameters(thing):
    return list(inspect.signature(thing).parameters)


class Interface(unittest.TestCase):
    """The section "The interface" of the document; test_errors.py has the errors."""

    def test_functions(self):
        for file, things in INTERFACE.items():
            module = importlib.import_module("saidearly." + file)
            for name, wanted in things.items():
                thing = vars(module)[name]
                self.assertEqual(thing.__module__, "saidearly." + file)
                if isinstance(wanted, str):
                    self.assertTrue(inspect.isfunction(thing), name)
                    self.assertEqual(parameters(thing), wanted.split(), name)

    def test_classes(self):
        for file, things in INTERFACE.items():
            module = importlib.import_module("saidearly." + file)
            for name, methods in things.items():
                if isinstance(methods, dict):
                    made = vars(module)[name]
                    self.assertTrue(inspect.isclass(made), name)
                    for method, wanted in methods.items():
                        self.assertTrue(inspect.isfunction(vars(made)[method]), (name, method))
                        self.assertEqual(parameters(vars(made)[method])[1:], wanted.split(), (name, method))

    def test_nothing_has_a_default(self):
        for file, things in INTERFACE.items():
            module = importlib.import_module("saidearly." + file)
            for name in things:
                for parameter in inspect.signature(vars(module)[name]).parameters.values():
                    self.assertIs(parameter.default, parameter.empty)
                    self.assertIs(parameter.kind, parameter.POSITIONAL_OR_KEYWORD)


if __name__ == "__main__":
    unittest.main()
