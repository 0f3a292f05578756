"""The package keeps to the subset of Python in which it is to be written, as far as this can be told mechanically."""

import ast
import os
import re
import unittest

ROOT = os.path.dirname(os.path.dirname(os.path.abspath(__file__)))
PACKAGE = os.path.join(ROOT, "backseen")

BUILTINS = set("""
len range enumerate zip min max sum abs sorted reversed int str bool list tuple dict set isinstance ord repr any all
divmod Exception ValueError TypeError KeyError IndexError LookupError super type
""".split())
ALL_BUILTINS = set(dir(__builtins__) if not isinstance(__builtins__, dict) else __builtins__)
METHODS = set("""
append clear copy count endswith extend find get index insert isalnum isalpha isdigit islower isspace isupper items join
keys ljust lower lstrip partition pop remove replace reverse rfind rjust rpartition rsplit rstrip setdefault split
splitlines startswith strip update upper values zfill bit_length add discard
""".split())
FORBIDDEN = (
    ast.Global, ast.AsyncFunctionDef, ast.AsyncFor, ast.AsyncWith, ast.Await, ast.Yield, ast.YieldFrom, ast.SetComp,
    ast.Import, ast.Div, ast.Pow, ast.Mod, ast.With, ast.Match, ast.Nonlocal, ast.NamedExpr, ast.Starred,
)
INTERFACE = {
    "errors": "SeenError BadValue TooLarge NotPossible TextError",
    "words": "is_letters is_word is_look is_sample comes_before words_up_to common_end are_alike beginnings",
    "machines": "is_machine state_behind takes first_words last_words is_least least_of machine_from tree_of",
    "comparing": "telling_word outside_word inside_paper accepts_inside common",
    "looking": "clashes pairs_back has_property is_of_look five_against accepts_five",
    "joining": "is_must greatest_look classes seen_machine closure",
    "papers": "paper_for accepts_paper joins_for accepts_joins",
    "rounds": "rounds words_by_round rows_for accepts_rows",
    "looked": "looked_states looked_machine",
    "wholes": "closure_of together whole_classes whole_paper accepts_whole whole_joins accepts_whole_joins first_added",
    "building": "union_of complement_of union_paper complement_paper accepts_union accepts_complement",
    "windows": "window_table window_machine is_in_windows window_paper accepts_window first_free_in_windows windows_of"
               " is_windowed windowed_against accepts_windowed",
    "single": "least_look look_evidence accepts_look",
    "sides": "are_apart apart_paper accepts_apart verdict verdict_paper accepts_verdict least_apart least_apart_paper"
             " accepts_least_apart least_apart_from",
    "towers": "tower tower_paper accepts_tower",
    "cases": "case_of changed",
    "undecided": "is_any_undecided first_undecided count_undecided undecided_paper accepts_undecided",
    "telling": "telling_number first_sample tells thinned is_needed needed_words needed_paper accepts_needed",
    "counting": "count_at count_up_to nth_word count_before index_of longest_word loop_of is_narrow growth_degree"
                " growth_evidence accepts_growth",
    "teaching": "tells_paper accepts_tells teaching",
    "learning": "Learner first_missing learned shown_words",
    "mirrors": "reversed_machine reversed_sample rest_of completed_by renamed replaced_back reversed_rows",
    "scanning": "scan",
    "reading": "next_tokens read_sample read_machine read_paper read_records",
    "writing": "sample_text machine_text paper_text records_text",
    "desk": "Desk",
    "journals": "replayed",
    "records": "are_right",
    "fewest": "fewest_papers fewest_records",
}
CLASSES = {
    "Learner": {
        "__init__": "letters k", "add": "word", "take_back": "word", "takes": "word", "words": "", "machine": "",
        "log": "",
        "twin": "",
    },
    "Desk": {
        "__init__": "letters k", "act": "command", "undo": "", "twin": "", "words": "", "asked": "", "look": "",
        "letters": "", "began": "", "journal": "", "verdict": "word", "paper": "word", "open_word": "", "records": "",
    },
}


def files():
    found = []
    for folder, _, names in os.walk(PACKAGE):
        if os.path.basename(folder) != "__pycache__":
            found.extend(os.path.join(folder, name) for name in names)
    return sorted(found)


def source(path):
    with open(path, encoding="utf-8", newline="") as file:
        return file.read()


def trees():
    return [(path, ast.parse(source(path))) for path in files()]


def functions(tree):
    return [node for node in ast.walk(tree) if isinstance(node, ast.FunctionDef)]


def is_plain(node):
    """Whether what is written there is a constant, or a tuple or a dict of constants."""
    if isinstance(node, ast.Tuple):
        return all(is_plain(item) for item in node.elts)
    if isinstance(node, ast.Dict):
        return all(isinstance(item, ast.Constant) for item in node.keys + node.values)
    return isinstance(node, ast.Constant)


def bound_names(function):
    """The parameters and local variables of a function."""
    names = {argument.arg for argument in function.args.args + function.args.kwonlyargs}
    for node in ast.walk(function):
        if isinstance(node, ast.Name) and isinstance(node.ctx, ast.Store):
            names.add(node.id)
        elif isinstance(node, (ast.FunctionDef, ast.Lambda)) and node is not function:
            names |= {argument.arg for argument in node.args.args}
            if isinstance(node, ast.FunctionDef):
                names.add(node.name)
    return names


class Language(unittest.TestCase):
    def test_files(self):
        for path in files():
            name = os.path.basename(path)
            self.assertRegex(name, r"^[a-z_0-9]+\.py$")
            text = source(path)
            self.assertTrue(all(sign == "\n" or " " <= sign <= "~" for sign in text), path)
            lines = text.split("\n")
            self.assertLessEqual(len(lines) - 1, 399, path)
            self.assertLessEqual(max(map(len, lines)), 120, path)

    def test_functions_have_at_most_40_lines(self):
        for path, tree in trees():
            for function in functions(tree):
                self.assertLessEqual(function.end_lineno - function.lineno + 1, 40, (path, function.name))
                self.assertEqual(function.decorator_list, [])

    def test_module_level(self):
        for path, tree in trees():
            for at, node in enumerate(tree.body):
                docstring = at == 0 and isinstance(node, ast.Expr) and isinstance(node.value, ast.Constant)
                self.assertTrue(
                    docstring or isinstance(node, (ast.ImportFrom, ast.FunctionDef, ast.ClassDef, ast.Assign)),
                    (path, node.lineno),
                )
                if isinstance(node, ast.Assign):
                    self.assertTrue(is_plain(node.value), (path, node.lineno))
                    self.assertEqual(len(node.targets), 1)
                    self.assertIsInstance(node.targets[0], ast.Name)

    def test_imports_name_the_file_that_defines_the_name_and_are_used(self):
        defined = {}
        for path, tree in trees():
            module = "backseen." + os.path.basename(path)[:-3]
            defined[module] = {
                node.name if not isinstance(node, ast.Assign) else node.targets[0].id
                for node in tree.body if isinstance(node, (ast.FunctionDef, ast.ClassDef, ast.Assign))
            }
        for path, tree in trees():
            used = {node.id for node in ast.walk(tree) if isinstance(node, ast.Name)}
            for node in ast.walk(tree):
                if isinstance(node, ast.ImportFrom):
                    self.assertIn(node.module, defined, path)
                    for alias in node.names:
                        self.assertIn(alias.name, defined[node.module], path)
                        self.assertIsNone(alias.asname)
                        self.assertIn(alias.name, used, path)

    def test_no_two_files_import_from_each_other(self):
        ahead = {}
        for path, tree in trees():
            name = "backseen." + os.path.basename(path)[:-3]
            ahead[name] = {node.module for node in ast.walk(tree) if isinstance(node, ast.ImportFrom)}
        while ahead:
            free = [name for name in ahead if not ahead[name] & set(ahead)]
            self.assertTrue(free, ahead)
            for name in free:
                del ahead[name]

    def test_statements_and_expressions(self):
        for path, tree in trees():
            for node in ast.walk(tree):
                self.assertNotIsInstance(node, FORBIDDEN, (path, getattr(node, "lineno", None)))
                if isinstance(node, ast.Constant):
                    self.assertNotIsInstance(node.value, (float, bytes, complex), path)
                    if isinstance(node.value, str):
                        self.assertNotIn("%", node.value, path)
                if isinstance(node, ast.Compare):
                    for operator, right in zip(node.ops, node.comparators):
                        if isinstance(operator, (ast.Is, ast.IsNot)):
                            self.assertIsInstance(right, ast.Constant, (path, node.lineno))

    def test_lambdas_with_the_same_parameters_stand_on_different_lines(self):
        for path, tree in trees():
            places = [
                (node.lineno, tuple(argument.arg for argument in node.args.args))
                for node in ast.walk(tree) if isinstance(node, ast.Lambda)
            ]
            self.assertEqual(len(places), len(set(places)), path)

    def test_default_values_are_plain(self):
        for path, tree in trees():
            defined = {
                node.targets[0].id for node in tree.body if isinstance(node, ast.Assign)
            } | {alias.name for node in tree.body if isinstance(node, ast.ImportFrom) for alias in node.names}
            for function in functions(tree):
                for value in function.args.defaults + [value for value in function.args.kw_defaults if value]:
                    plain = isinstance(value, ast.Constant) or (isinstance(value, ast.Tuple) and not value.elts)
                    named = isinstance(value, ast.Name) and value.id in defined and value.id.isupper()
                    self.assertTrue(plain or named, (path, function.lineno))

    def test_names(self):
        for path, tree in trees():
            imported = {
                alias.name for node in ast.walk(tree) if isinstance(node, ast.ImportFrom) for alias in node.names
            }
            top = {node.name for node in tree.body if isinstance(node, (ast.FunctionDef, ast.ClassDef))}
            for name in top:
                self.assertNotIn(name, ALL_BUILTINS, path)
            classes = {node.name for node in tree.body if isinstance(node, ast.ClassDef)}
            for function in functions(tree):
                for name in bound_names(function):
                    self.assertNotIn(name, ALL_BUILTINS - {"_"}, (path, function.name))
                    self.assertNotIn(name, imported | classes | top, (path, function.name))
            for node in ast.walk(tree):
                if isinstance(node, ast.Name) and isinstance(node.ctx, ast.Load) and node.id in ALL_BUILTINS:
                    self.assertIn(node.id, BUILTINS, (path, node.lineno))
                if isinstance(node, ast.Name) and isinstance(node.ctx, ast.Load):
                    self.assertNotEqual(node.id, "_", (path, node.lineno))

    def test_attributes_and_methods(self):
        own = set()
        for _, tree in trees():
            for node in ast.walk(tree):
                if isinstance(node, ast.ClassDef):
                    own |= {item.name for item in node.body if isinstance(item, ast.FunctionDef)}
                if isinstance(node, ast.Attribute) and isinstance(node.ctx, ast.Store):
                    own.add(node.attr)
        of_builtins = {name for kind in (str, int, list, dict, set, bytes, tuple) for name in dir(kind)}
        self.assertEqual(own & of_builtins, {"__init__", "add"})
        for path, tree in trees():
            for node in ast.walk(tree):
                if isinstance(node, ast.Attribute) and node.attr not in own:
                    self.assertIn(node.attr, METHODS, (path, node.lineno))

    def test_what_a_loop_goes_over_is_not_changed_in_it(self):
        changing = {"append", "extend", "insert", "pop", "remove", "clear", "update", "setdefault", "reverse", "sort"}
        for path, tree in trees():
            for node in ast.walk(tree):
                if not isinstance(node, ast.For):
                    continue
                over = {
                    ast.unparse(part) for part in ast.walk(node.iter) if isinstance(part, (ast.Name, ast.Attribute))
                }
                for part in [part for row in node.body for part in ast.walk(row)]:
                    if isinstance(part, ast.Call) and isinstance(part.func, ast.Attribute):
                        if part.func.attr in changing:
                            self.assertNotIn(ast.unparse(part.func.value), over, (path, part.lineno))

    def test_the_word_that_tells_a_class_stands_in_calls_alone(self):
        for path in files():
            for row in source(path).split("\n"):
                for found in re.finditer(r"\btype\b", row):
                    self.assertRegex(row[found.start():], r"^type\([a-z_0-9\[\]]+\) (==|!=) (str|int|tuple)\b", path)


class Interface(unittest.TestCase):
    def test_point_9_names_are_defined_in_their_files(self):
        for module, names in INTERFACE.items():
            tree = ast.parse(source(os.path.join(PACKAGE, module + ".py")))
            here = {node.name for node in tree.body if isinstance(node, (ast.FunctionDef, ast.ClassDef))}
            for name in names.split():
                self.assertIn(name, here, module)

    def test_point_9_parameters_have_the_names_of_the_interface(self):
        told = {
            "is_word": "letters value", "common": "machine other", "words_up_to": "letters most",
            "are_alike": "one other k", "machine_from": "letters rows ends start", "takes": "machine word",
            "accepts_inside": "machine other value", "accepts_five": "machine k value", "classes": "letters sample k",
            "is_must": "letters sample k word", "greatest_look": "letters sample word",
            "paper_for": "letters sample k word", "accepts_paper": "letters sample k word value",
            "joins_for": "letters sample k", "accepts_joins": "letters sample k value",
            "rounds": "letters sample k most", "words_by_round": "letters sample k most",
            "rows_for": "letters sample k word", "accepts_rows": "letters sample k word value",
            "count_at": "machine length", "count_up_to": "machine length", "nth_word": "machine index",
            "count_before": "machine word", "index_of": "machine word", "accepts_growth": "machine value",
            "is_letters": "value", "is_look": "value", "is_machine": "value", "is_sample": "letters value",
            "comes_before": "one other", "common_end": "one other", "beginnings": "letters sample",
            "state_behind": "machine word", "first_words": "machine", "last_words": "machine", "is_least": "machine",
            "least_of": "machine", "tree_of": "letters sample", "telling_word": "machine other",
            "outside_word": "machine other", "inside_paper": "machine other", "clashes": "machine",
            "pairs_back": "machine k", "has_property": "machine k", "is_of_look": "machine k",
            "five_against": "machine k", "seen_machine": "letters sample k", "closure": "letters sample k",
            "longest_word": "machine", "loop_of": "machine", "is_narrow": "machine", "growth_degree": "machine",
            "growth_evidence": "machine",
            "looked_states": "machine k", "looked_machine": "machine k", "closure_of": "machine k",
            "together": "machine other k", "whole_classes": "machines k", "whole_paper": "machines k word",
            "accepts_whole": "machines k word value", "whole_joins": "machines k",
            "accepts_whole_joins": "machines k value", "first_added": "machine k", "union_of": "machine other",
            "complement_of": "machine", "union_paper": "machine other k", "complement_paper": "machine k",
            "accepts_union": "machine other k value", "accepts_complement": "machine k value",
            "window_table": "letters sample k", "window_machine": "letters sample k",
            "is_in_windows": "letters sample k word", "window_paper": "letters sample k word",
            "accepts_window": "letters sample k word value", "first_free_in_windows": "letters sample k",
            "windows_of": "machine k", "is_windowed": "machine k", "windowed_against": "machine k",
            "accepts_windowed": "machine k value", "least_look": "machine", "look_evidence": "machine",
            "accepts_look": "machine value", "are_apart": "letters sample outside k",
            "apart_paper": "letters sample outside k", "accepts_apart": "letters sample outside k value",
            "verdict": "letters sample outside k word", "verdict_paper": "letters sample outside k word",
            "accepts_verdict": "letters sample outside k word value", "least_apart": "letters sample outside",
            "least_apart_paper": "letters sample outside", "accepts_least_apart": "letters sample outside value",
            "least_apart_from": "machine outside", "tower": "letters sample outside word",
            "tower_paper": "letters sample outside word", "accepts_tower": "letters sample outside word value",
            "case_of": "letters sample k word", "changed": "letters sample k word",
            "is_any_undecided": "letters sample outside k", "first_undecided": "letters sample outside k",
            "count_undecided": "letters sample outside k length", "undecided_paper": "letters sample outside k",
            "accepts_undecided": "letters sample outside k value", "telling_number": "machine k",
            "first_sample": "machine k", "tells": "machine k sample", "thinned": "machine k sample",
            "is_needed": "machine k word", "needed_words": "machine k", "needed_paper": "machine k word",
            "accepts_needed": "machine k word value", "tells_paper": "machine k sample",
            "accepts_tells": "machine k sample value", "teaching": "machine", "first_missing": "machine k sample",
            "learned": "letters sample outside", "shown_words": "machine k sample", "reversed_machine": "machine",
            "reversed_sample": "letters sample", "rest_of": "machine word", "completed_by": "machine word",
            "renamed": "machine names", "replaced_back": "machine letters words",
            "reversed_rows": "letters sample k word rows", "scan": "text", "next_tokens": "text", "read_sample": "text",
            "read_machine": "text", "read_paper": "text", "read_records": "text", "sample_text": "letters sample",
            "machine_text": "machine", "paper_text": "letters paper", "records_text": "letters k records",
            "replayed": "letters k journal", "are_right": "letters k records", "fewest_papers": "letters k journal",
            "fewest_records": "letters k journal",
        }
        names = {name for module, names in INTERFACE.items() if module != "errors" for name in names.split()}
        self.assertEqual(set(told), names - set(CLASSES))
        for module in INTERFACE:
            for node in ast.parse(source(os.path.join(PACKAGE, module + ".py"))).body:
                if isinstance(node, ast.FunctionDef) and node.name in told:
                    self.assertEqual(" ".join(argument.arg for argument in node.args.args), told[node.name])

    def test_points_151_and_192_the_methods_stand_in_their_classes(self):
        found = {}
        for module in INTERFACE:
            for node in ast.parse(source(os.path.join(PACKAGE, module + ".py"))).body:
                if isinstance(node, ast.ClassDef) and node.name in CLASSES:
                    found[node.name] = {
                        item.name: " ".join(argument.arg for argument in item.args.args[1:])
                        for item in node.body if isinstance(item, ast.FunctionDef)
                    }
        self.assertEqual(set(found), set(CLASSES))
        for name, methods in CLASSES.items():
            self.assertEqual({method: found[name].get(method) for method in methods}, methods)


if __name__ == "__main__":
    unittest.main()
