"""The interface: each name in the file under which it stands, with its arguments."""

import importlib
import inspect
import unittest

CLASSES = {"errors": ["KindsError", "BadText", "BadTable", "BadProgram", "BadJob"]}
FUNCTIONS = {
    "words": {"is_word": ["value"]},
    "indices": {
        "is_term": ["makers", "value"],
        "is_tree": ["makers", "value"],
        "size": ["term"],
        "depth": ["term"],
        "names_of": ["term"],
        "order": ["makers", "one", "other"],
        "trees": ["makers", "many"],
        "put": ["term", "assignment"],
        "fitted": ["patterns", "terms"],
        "unified": ["pairs"],
    },
    "reading": {"read": ["text"]},
    "writing": {"write": ["table", "program"]},
    "tables": {
        "is_table": ["value"],
        "check_table": ["value"],
        "parts_of": ["table", "maker"],
        "constructor_of": ["table", "word"],
        "constructors_of": ["table", "family"],
        "words_of": ["table"],
    },
    "values": {
        "is_raw": ["table", "value"],
        "index_of": ["table", "value"],
        "size": ["value"],
        "before": ["table", "one", "other"],
        "values_of": ["table", "total"],
        "demanded": ["table", "function", "values"],
    },
    "rules": {"rules_of": ["table"], "are_right": ["table", "rules"]},
    "machine": {
        "machine_of": ["table"],
        "state_of": ["machine", "tree"],
        "step": ["machine", "maker", "parts"],
        "holding": ["machine", "state"],
        "into": ["machine", "state"],
        "is_single": ["machine", "state"],
        "least": ["machine", "state"],
        "second": ["machine", "state"],
        "value_at": ["table", "machine", "family", "tree"],
    },
    "upholding": {
        "is_formed": ["table", "machine"],
        "is_model": ["table", "machine"],
        "is_upheld": ["table", "machine", "rules"],
    },
    "languages": {
        "state_in": ["machine", "context", "term"],
        "least_case": ["machine", "context"],
        "parted": ["machine", "context", "one", "other"],
        "opened": ["machine", "context", "name"],
        "fits": ["machine", "context", "patterns", "terms"],
        "vectors": ["machine", "names", "demands"],
    },
    "programs": {
        "is_program": ["table", "value"],
        "check_program": ["table", "value"],
        "function_of": ["program", "word"],
        "calls_of": ["program", "word"],
        "group_of": ["program", "word"],
        "names_in": ["pattern"],
        "taken": ["patterns", "values"],
        "clause_for": ["function", "values"],
    },
    "runs": {
        "plain": ["program", "function", "values", "steps"],
        "run": ["table", "program", "function", "values", "steps"],
    },
    "pieces": {
        "context": ["table", "function", "skeleton"],
        "lives": ["table", "machine", "function", "skeleton"],
        "pieces": ["table", "machine", "function"],
        "unreached": ["table", "machine", "function"],
        "sample": ["table", "machine", "function", "skeleton"],
    },
    "judging": {
        "told_index": ["table", "program", "word", "clause", "trees"],
        "told": ["table", "program", "word", "values"],
        "finding": ["table", "machine", "program", "word", "piece"],
        "right_at": ["table", "machine", "program", "word", "piece", "vector"],
        "findings": ["table", "machine", "program", "word"],
        "right_functions": ["table", "machine", "program"],
        "judged": ["table", "machine", "program"],
    },
    "papers": {
        "paper": ["table", "machine", "program"],
        "accepts": ["table", "program", "paper"],
    },
    "changes": {
        "to_judge": ["elder", "newer"],
        "right_behind": ["table", "machine", "elder", "right", "newer"],
        "region": ["table", "machine", "program", "word"],
    },
    "jobs": {"answers": ["text"]},
}


class Interface(unittest.TestCase):

    def test_classes(self):
        for file, names in CLASSES.items():
            module = importlib.import_module(f"exactkinds.{file}")
            for name in names:
                found = getattr(module, name)
                self.assertTrue(inspect.isclass(found), name)
                self.assertEqual(found.__module__, module.__name__, name)

    def test_functions(self):
        for file, names in FUNCTIONS.items():
            module = importlib.import_module(f"exactkinds.{file}")
            for name, arguments in names.items():
                found = getattr(module, name)
                self.assertTrue(inspect.isfunction(found), name)
                self.assertEqual(found.__module__, module.__name__, name)
                self.assertEqual(list(inspect.signature(found).parameters), arguments, name)


if __name__ == "__main__":
    unittest.main()
