import importlib
import inspect
import unittest

NAMES = {
    "cords": {
        "is_nail": ["thing"], "check_cord": ["thing"], "short_form": ["cord"], "is_fall": ["cord"],
        "are_one": ["one", "other"], "joined": ["one", "other"], "contrary": ["cord"],
    },
    "blocks": {"blocks_of": ["cord"]},
    "counting": {"times_in": ["row", "cord"], "rows_in": ["cord", "length"]},
    "witness": {"row_of": ["cord"], "why_hangs": ["cord"], "told_apart": ["one", "other"]},
    "merging": {"merged_rows": ["row", "second"]},
    "rings": {"loosened": ["cord"], "ring_of": ["cord"], "leader": ["one", "other"]},
    "powers": {"power": ["cord", "times"], "root_of": ["cord"], "common_root": ["one", "other"]},
    "drawing": {
        "set_of": ["nails"], "nails_of": ["cord"], "without": ["cord", "nails"], "falls_without": ["cord", "nails"],
    },
    "families": {"least_sets": ["family"], "meeting_sets": ["family"]},
    "falling": {"falling_sets": ["cord"], "holding_sets": ["cord"]},
    "rules": {
        "check_rule": ["thing"], "breaks": ["rule", "nails"], "both_rules": ["rule", "second"],
        "either_rule": ["rule", "second"], "turned_rule": ["rule"], "at_least": ["nails", "number"],
    },
    "rulebook": {"rule_text": ["rule"], "read_rule": ["text"]},
    "making": {"round_back": ["nails"], "pieces_needed": ["rule"], "cord_of": ["rule"], "rule_of": ["cord"]},
    "terms": {
        "Term": [], "Piece": ["nail", "turns"], "Parts": ["parts"], "Times": ["body", "number"],
        "Back": ["one", "other"],
    },
    "reading": {"read": ["text"], "written": ["cord"]},
    "slides": {"moved": ["cord", "moves"], "back_moves": ["moves"]},
    "gallery": {"Gallery": []},
}

METHODS = {
    ("terms", "Term"): {"pieces": [], "cord": [], "text": []},
    ("terms", "Piece"): {"pieces": [], "cord": [], "text": []},
    ("terms", "Parts"): {"pieces": [], "cord": [], "text": []},
    ("terms", "Times"): {"pieces": [], "cord": [], "text": []},
    ("terms", "Back"): {"pieces": [], "cord": [], "text": []},
    ("gallery", "Gallery"): {"say": ["row"]},
}


class InterfaceTest(unittest.TestCase):
    """The names and arguments as the document's interface tells them."""

    def test_names_and_arguments(self):
        for module, functions in NAMES.items():
            for name, arguments in functions.items():
                with self.subTest(module=module, name=name):
                    function = getattr(importlib.import_module(f"nailhang.{module}"), name)
                    self.assertEqual(list(inspect.signature(function).parameters), arguments)

    def test_methods(self):
        for (module, name), methods in METHODS.items():
            made_by = getattr(importlib.import_module(f"nailhang.{module}"), name)
            for method, arguments in methods.items():
                parameters = inspect.signature(getattr(made_by, method)).parameters
                self.assertEqual(list(parameters), ["self"] + arguments)

    def test_terms_stand_under_term(self):
        terms = importlib.import_module("nailhang.terms")
        for name in ("Piece", "Parts", "Times", "Back"):
            self.assertIn(terms.Term, getattr(terms, name).__bases__)


if __name__ == "__main__":
    unittest.main()
