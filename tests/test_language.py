"""The package keeps to the language of LANGUAGE.md, as far as a look at the code can tell."""

import ast
import pathlib
import re
import unittest

import plainscan
from tests.language import Look, findings, imported

FOLDER = pathlib.Path(plainscan.__file__).parent
FILES = {path.name: path.read_text() for path in sorted(FOLDER.iterdir()) if path.suffix == ".py"}
INTERFACE = {
    "words": {"WordRule": ("becomes", "term", "row"), "plain_rule": None},
    "wordlikes": {"read_alike": None, "parting_text": None},
    "rights": {"is_guard": None, "is_asker": None, "is_labels": None, "is_open": None,
               "Policy": ("sees", "askers"), "shows_no_more": None, "parting_view": None},
    "documents": {"is_document": None, "is_change": None,
                  "Log": ("then", "documents", "policy", "seen", "count", "versions", "fence", "__len__")},
    "questions": {"is_question": None, "is_row": None, "question_text": None, "read_question": None, "atoms": None,
                  "open_atoms": None, "scored_terms": None, "holds": None},
    "questionlikes": {"looks_of": None, "state_of": None, "row_states": None, "finds_no_more": None, "finds_same": None,
                      "parting_rows": None},
    "ranking": {"Rank": ("points", "factor", "value", "is_blind"), "score": None, "ranked": None},
    "rankinglikes": {"ranked_alike": None, "multipliers": None, "step_value": None, "is_parting": None, "parting": None,
                     "parting_number": None, "shows_trace": None, "trace": None},
    "scans": {"row_documents": None, "scan": None, "scan_count": None},
    "hints": {"begun": None, "neighbours": None},
    "pages": {"is_place": None, "page_of": None},
    "windows": {"is_window": None, "cut_out": None, "is_shown": None, "least_window": None, "spots": None, "excerpt": None},
    "tallies": {"tally_days": None, "tally_terms": None, "added_days": None, "added_terms": None},
    "parts": {"Part": ("__len__", "__eq__", "__add__"), "part_of": None, "merged": None, "plain_part": None, "reading": None,
              "term_list": None, "all_terms": None},
    "searches": {"search": None},
    "looks": {"best_keys": None, "sums_of": None, "settled": None, "fewest_looks": None, "any_fewest": None},
    "fleets": {"Fleet": ("place", "ship", "clean", "lose", "back", "move"), "held_counts": None, "served_count": None,
               "weak_sets": None},
    "caches": {"Cache": ("find", "keep", "__len__")},
    "kept": {"true_list": None, "notes_of": None, "joined": None, "keys_behind": None, "Receiver": ("take",)},
    "desks": {"Desk": ("__len__", "put", "gone", "label", "policy", "undo", "place", "ship", "clean", "lose", "back", "move",
                       "merge", "parts_of", "ask", "begun", "neighbours", "watch", "drop", "tells", "page", "why", "tally_days",
                       "tally_terms", "trial", "tried")},
    "consoles": {"Console": ("say",)},
    "checker": {"accepts": None},
    "certificates": {"certify_read": None, "certify_finds": None, "certify_ranked": None, "certify_trace": None,
                     "certify_shows": None, "certify_scanned": None, "certify_shown": None, "certify_page": None,
                     "certify_settled": None, "certify_fewest": None, "certify_plain": None, "certify_served": None,
                     "certify_true": None},
}


class PackageTest(unittest.TestCase):
    def test_only_plain_files(self):
        for path in FOLDER.iterdir():
            if path.name != "__pycache__":
                self.assertRegex(path.name, r"^[a-z_][a-z0-9_]*\.py$")

    def test_each_file_keeps_to_the_rules(self):
        looks = [Look(name, text) for name, text in FILES.items()]
        classes = [one.name for look in looks for one in look.classes]
        methods = {method for look in looks for method in look.methods}
        for name, text in FILES.items():
            self.assertEqual(findings(name, text, classes, methods), [])

    def test_no_two_files_import_from_each_other(self):
        needs = {f"plainscan.{name[:-3]}": imported(text) for name, text in FILES.items()}
        done = set()
        while len(done) < len(needs):
            ready = [name for name, wanted in needs.items() if name not in done and wanted <= done]
            self.assertNotEqual(ready, [], "a ring of imports")
            done.update(ready)

    def test_each_import_names_the_file_that_defines_the_name(self):
        defined = {f"plainscan.{name[:-3]}": {node.name if hasattr(node, "name") else node.targets[0].id
                                              for node in ast.parse(text).body
                                              if isinstance(node, (ast.FunctionDef, ast.ClassDef, ast.Assign))}
                   for name, text in FILES.items()}
        for name, text in FILES.items():
            for node in ast.parse(text).body:
                if isinstance(node, ast.ImportFrom) and node.module.startswith("plainscan"):
                    self.assertLessEqual({alias.name for alias in node.names}, defined[node.module], name)

    def test_each_attribute_that_is_read_is_assigned(self):
        code = "\n".join(FILES.values())
        assigned = set(re.findall(r"\w\.(\w+) = ", code))
        trees = [ast.parse(text) for text in FILES.values()]
        methods = {node.name for tree in trees for node in ast.walk(tree) if isinstance(node, ast.FunctionDef)}
        called = {node.func for tree in trees for node in ast.walk(tree) if isinstance(node, ast.Call)}
        for tree in trees:
            for node in ast.walk(tree):
                if isinstance(node, ast.Attribute) and isinstance(node.ctx, ast.Load) and node not in called:
                    self.assertIn(node.attr, assigned | methods)

    def test_no_name_is_unused(self):
        for name, text in FILES.items():
            for alias in [alias.name for node in ast.parse(text).body if isinstance(node, ast.ImportFrom)
                          for alias in node.names]:
                self.assertGreater(len(re.findall(rf"\b{alias}\b", text)), 1, f"{alias} in {name}")

    def test_the_interface_is_defined_where_it_is_listed(self):
        for module, names in INTERFACE.items():
            body = {node.name: node for node in ast.parse(FILES[f"{module}.py"]).body
                    if isinstance(node, (ast.FunctionDef, ast.ClassDef))}
            for name, methods in names.items():
                self.assertIn(name, body)
                told = {node.name for node in getattr(body[name], "body", []) if isinstance(node, ast.FunctionDef)}
                self.assertLessEqual(set(methods or ()), told)


class LookTest(unittest.TestCase):
    """The look itself must see what is wrong."""
    WRONG = {
        "L2": "from os import path\n",
        "L3": "if 1:\n    N = 2\n",
        "L5": "class Box:\n    def __hash__(self):\n        return 1\n",
        "L6": "def f():\n    global N\n",
        "L7": "def f(xs):\n    return any(x for x in xs)\n",
        "L8": "def f(x):\n    return print(x)\n",
        "L10": "def f():\n" + "    pass\n" * 40,
        "L12": "def f(x):\n    return x.__dict__\n",
        "L14": "# \u00e9\n",
        "L15": "def f(hash):\n    return hash\n",
        "L16": "import plainscan\n",
        "L17": "def f(elements):\n    return elements\n",
        "L19": "def f(x):\n    raise x\n",
        "L20": "def f(x):\n    return x is f\n",
        "L23": "def f(x):\n    return zip(x, x)\n",
        "L24": "def f(x):\n    return set(x)\n",
        "L25": "def f(x):\n    return x.difference(x)\n",
        "L26": "def f(x):\n    x.args = 1\n",
        "L27": "def f(x):\n    return '%'\n",
        "L28": "class Box:\n    def __eq__(self, other):\n        return self.n == other.n\n",
    }

    def test_wrong_code_is_found(self):
        for rule, text in self.WRONG.items():
            self.assertTrue([one for one in findings("x.py", text) if one.startswith(rule + " ")], (rule, text))

    def test_exits_and_kinds(self):
        for row in ("self.undo()", "self.held = self.made()", "if value is None:\n            pass", "kept = self.desk.held", "raise", "self.n += f(1)"):
            text = f"class Box:\n    def __exit__(self, kind, value, trace):\n        {row}\n"
            self.assertTrue([one for one in findings("x.py", text) if one.startswith("L6 ")], text)
        self.assertTrue([one for one in findings("x.py", "def f(x, y):\n    return type(x) is not type(y)\n") if one.startswith("L8 ")])

    def test_comprehensions_and_stars(self):
        for text in ("def f(xs, y):\n    return [[y for y in x] for x in xs]\n", "def f(xs):\n    return sorted({*xs})\n"):
            self.assertTrue([one for one in findings("x.py", text) if one.startswith("L7 ")], text)

    def test_right_code_is_not(self):
        text = "N = 2\n\n\ndef f(xs):\n    seen = set()\n    for x in xs:\n        seen.add(x)\n    return len(seen) + N\n"
        self.assertEqual(findings("x.py", text), [])


if __name__ == "__main__":
    unittest.main()
