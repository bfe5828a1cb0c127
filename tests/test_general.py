"""Points 1 to 4 for all files: what the program uses, its names and parameters, and what it leaves as it is."""

import ast
import copy
import importlib
import inspect
import pathlib
import unittest

from storedesk.books import make_book
from storedesk.copies import Copy
from storedesk.deltas import apply_delta, combined
from storedesk.desk import Desk
from storedesk.disks import Disk
from storedesk.errors import KeyTaken, Mismatch
from storedesk.pagetree import PageTree
from storedesk.printer import write_query
from storedesk.recovery import Engine
from storedesk.sessions import Sessions
from storedesk.shelves import Shelf
from storedesk.steps import RULES, SHRINKING
from storedesk.values import Bag
from storedesk.versions import VersionStore
from storedesk.views import Keeper, View
from tests.samples import BOOK, SCHEMA
from tests.support import StoreCase

PACKAGE = pathlib.Path(importlib.import_module("storedesk").__file__).parent

# The functions of the interface with their parameters; "*" stands before one that is passed by name only.
FUNCTIONS = {
    "values": {
        "kind_of": "value", "sort_key": "value", "compare": "left right", "same": "left right", "row_key": "row",
        "compare_rows": "left right", "sorted_rows": "rows", "is_name": "thing", "is_label": "thing",
        "write_value": "value",
        "write_row": "row", "read_value": "text", "read_row": "text",
    },
    "conditions": {
        "compared": "op left right", "labels_of": "condition", "holds": "condition columns row",
        "conjuncts": "condition",
        "conjoined": "conditions", "renamed": "condition names", "folded": "condition", "interval": "condition label",
    },
    "schemas": {
        "fits": "kind value", "check_schema": "schema", "definition_of": "schema table", "column_names": "definition",
        "key_of": "definition row", "check_rows": "definition rows",
    },
    "books": {
        "empty_book": "schema", "make_book": "schema tables", "is_book": "schema book", "rows_of": "book table",
        "row_at": "schema book table key", "counts_of": "book", "dangling": "schema book",
    },
    "deltas": {
        "difference": "schema old new", "apply_delta": "schema book delta *references", "inverse": "delta",
        "tables_touched": "delta",
    },
    "trees": {
        "children": "tree", "places": "tree", "places_up": "tree", "subtree": "tree place",
        "replaced": "tree place part",
        "tables_in": "tree", "columns_of": "schema tree",
    },
    "words": {"tokens": "text"},
    "reader": {"read_query": "text", "read_change": "text", "read_condition": "text"},
    "printer": {"write_query": "tree *lines", "write_change": "change", "write_condition": "condition"},
    "changes": {"change_delta": "schema book change"},
    "answers": {
        "group_rows": "rows columns by aggregates", "top_rows": "rows columns keys n",
        "answer_node": "schema tree parts", "answer": "schema book tree", "shown": "schema book tree",
    },
    "steps": {
        "blocks": "tree", "arranged": "schema tree order", "take_step": "schema tree step",
        "applies": "schema tree step",
    },
    "rewriting": {
        "shrinking_steps": "schema tree", "run_chain": "schema tree chain", "is_chain": "schema tree chain end",
        "is_normal": "schema tree", "normal_chain": "schema tree", "normal": "schema tree",
    },
    "joins": {
        "size": "counts tree", "price": "counts tree", "best_order": "schema counts tree",
        "optimize": "schema counts tree",
    },
    "pages": {"is_tree": "pages order", "entries_of": "pages", "depth_of": "pages", "search_path": "pages key"},
    "histories": {
        "full_reads": "schema record", "links": "schema history", "is_order": "schema history order",
        "is_ring": "schema history ring", "serial_order": "schema history", "ring_of": "schema history",
        "replay": "schema book history numbers",
    },
    "disks": {"recovery_paper": "state", "recovered_pages": "state", "sweepable": "state", "is_ahead": "pieces"},
    "views": {
        "bag_turn": "before after", "turn_paper": "schema first second tree",
        "is_turn": "schema first second tree paper",
        "can_touch": "schema tree delta",
    },
    "copies": {"replayed": "schema book changes"},
    "sessions": {"replay_lines": "schema book lines"},
}

# The classes of the interface: what creates an object, its methods with their parameters, and what is read off it.
CLASSES = {
    "values": {"Bag": (
        {"__init__": "rows=()", "counted": "pairs", "many": "row", "__add__": "other", "__sub__": "other",
         "__len__": "",
         "__contains__": "row", "__bool__": "", "__iter__": ""},
        "rows pairs",
    )},
    "pagetree": {"PageTree": (
        {"__init__": "*order=8", "loaded": "pages *order=8", "put": "key row", "take": "key", "look": "key",
         "scan": "low=() high=() *reverse=False", "drain": "", "__len__": "", "__contains__": "key"},
        "pages order",
    )},
    "shelves": {"Shelf": (
        {"__init__": "schema book *order=8", "loaded": "schema pages *order=8", "apply": "delta", "read_book": "",
         "answer": "tree", "drain": ""},
        "pages rows_read",
    )},
    "versions": {"VersionStore": (
        {"__init__": "schema book", "begin": "", "query": "number tree", "look": "number table key",
         "change": "number change", "edit": "number delta", "seen": "number", "own": "number", "reads": "number",
         "ring_ahead": "number", "commit": "number", "drop": "number", "versions": "table key", "sweep": "",
         "book_at": "count"},
        "book history under_way",
    )},
    "disks": {"Disk": (
        {"__init__": "*fuel=None", "write": "piece", "twin": "*fuel=None", "state": "", "written": "", "__len__": "",
         "__iter__": ""},
        "first end fuel",
    )},
    "recovery": {"Engine": (
        {"__init__": "schema disk *order=8", "begin": "", "commit": "", "drop": "", "apply": "delta",
         "flush": "number=None", "sweep": "", "checkpoint": "", "dirty_pages": "", "read_book": "", "answer": "tree"},
        "disk group pages",
    )},
    "views": {
        "View": ({"__init__": "schema book tree", "turn": "delta"}, "rows columns tree"),
        "Keeper": (
            {"__init__": "schema book", "keep": "name tree", "forget": "name", "turn": "delta", "touchable": "delta",
             "show": "name", "columns_shown": "name"},
            "book names",
        ),
    },
    "copies": {"Copy": (
        {"__init__": "schema book name names", "write": "delta", "changes_after": "vector", "receive": "changes",
         "meet": "other"},
        "name book vector changes clashes heard settled",
    )},
    "sessions": {"Sessions": (
        {"__init__": "schema book", "run": "session line", "merge": "delta", "__len__": "", "__iter__": ""},
        "book history entries",
    )},
    "desk": {"Desk": (
        {"__init__": "schema book disk *name='desk' *names=('desk',) *order=8",
         "recovered": "schema disk *name='desk' *names=('desk',) *order=8", "run": "session line", "meet": "other",
         "__len__": "", "__iter__": ""},
        "book history entries disk views changes clashes vector",
    )},
}
OBJECTS = {
    "Bag": Bag, "PageTree": PageTree, "Shelf": lambda: Shelf(SCHEMA, BOOK),
    "VersionStore": lambda: VersionStore(SCHEMA, BOOK), "Disk": Disk, "Engine": lambda: Engine(SCHEMA, Disk()),
    "View": lambda: View(SCHEMA, BOOK, ("table", "zoo", "z")), "Keeper": lambda: Keeper(SCHEMA, BOOK),
    "Copy": lambda: Copy(SCHEMA, BOOK, "desk", ("desk",)), "Sessions": lambda: Sessions(SCHEMA, BOOK),
    "Desk": lambda: Desk(SCHEMA, BOOK, Disk()),
}


def module_of(file):
    return importlib.import_module("storedesk." + file)


class TestInterface(StoreCase):
    def test_each_function_is_defined_in_its_file(self):
        for file, functions in FUNCTIONS.items():
            for name in functions:
                function = getattr(module_of(file), name)
                self.assertTrue(inspect.isfunction(function), name)
                self.assertEqual((function.__module__, function.__name__), ("storedesk." + file, name))

    def test_parameters(self):
        for file, functions in FUNCTIONS.items():
            for name, wanted in functions.items():
                found = inspect.signature(getattr(module_of(file), name)).parameters
                self.assertEqual([part.strip("*") for part in wanted.split()], list(found), name)
                for part in wanted.split():
                    parameter = found[part.strip("*")]
                    kind = parameter.KEYWORD_ONLY if part.startswith("*") else parameter.POSITIONAL_OR_KEYWORD
                    self.assertEqual(parameter.kind, kind, (name, part))

    def test_defaults(self):
        self.assertIs(inspect.signature(apply_delta).parameters["references"].default, True)
        self.assertSame(inspect.signature(Bag).parameters["rows"].default, ())
        self.assertIs(inspect.signature(write_query).parameters["lines"].default, False)

    def test_classes(self):
        for file, classes in CLASSES.items():
            for name, (methods, read) in classes.items():
                made = getattr(module_of(file), name)
                self.assertEqual((made.__module__, made.__name__), ("storedesk." + file, name))
                for method, wanted in methods.items():
                    self.assertIn(method, vars(made), name)
                    self.check_method(made, method, wanted)
                for read_off in read.split():
                    getattr(OBJECTS[name](), read_off)

    def check_method(self, made, method, wanted):
        """The parameters behind the object itself, with their defaults."""
        found = list(inspect.signature(getattr(made, method)).parameters.values())
        if not isinstance(vars(made)[method], classmethod):
            found = found[1:]
        self.assertEqual([str(one) for one in found], [part.lstrip("*") for part in wanted.split()], (made, method))
        for part, parameter in zip(wanted.split(), found):
            kind = parameter.KEYWORD_ONLY if part.startswith("*") else parameter.POSITIONAL_OR_KEYWORD
            self.assertEqual(parameter.kind, kind, (made, method, part))

    def test_names_of_rules(self):
        self.assertIsInstance(RULES, tuple)
        self.assertIsInstance(SHRINKING, tuple)


class TestWhatIsUsed(StoreCase):
    def test_imports(self):
        """No clock, no random numbers, no files and no network can be reached but by an import."""
        allowed = {"heapq", "itertools", "math", "__future__"}
        files = sorted(PACKAGE.rglob("*.py"))
        self.assertGreater(len(files), 8)
        for path in files:
            for node in ast.walk(ast.parse(path.read_text(encoding="utf-8"))):
                if isinstance(node, ast.ImportFrom):
                    self.assertTrue(node.module in allowed or node.module.split(".")[0] == "storedesk",
                                    (path.name, node.module))
                if isinstance(node, ast.Import):
                    self.assertEqual([name.name for name in node.names], ["sys"], path.name)
                    self.assertEqual(path.name, "__main__.py")
                if isinstance(node, ast.Name):
                    self.assertNotIn(node.id, ("open", "input", "id", "hash", "__import__", "eval", "exec"), path.name)


class TestWhatIsLeftAlone(StoreCase):
    """After calls that raise an error, too; the other tests see to it for those that return."""

    def test_make_book(self):
        tables = [("zoo", [("b", None), ("a", None), ("b", None)]), ("ants", []), ("zoo", [])]
        before = copy.deepcopy(tables)
        self.assertFails(KeyTaken, {"table": "zoo", "key": ("b",)}, make_book, SCHEMA, tables)
        self.assertSame(tables, before)

    def test_deltas(self):
        delta = (("zoo", ("a",), ("a", None), ("a", "x")), ("zoo", ("b",), None, ("b", "x")))
        before = copy.deepcopy((BOOK, delta))
        self.assertFails(Mismatch, {"table": "zoo", "key": ("b",)}, apply_delta, SCHEMA, BOOK, delta)
        self.assertFails(Mismatch, {"table": "zoo", "key": ("a",)}, combined, delta, delta)
        self.assertSame((BOOK, delta), before)


if __name__ == "__main__":
    unittest.main()
