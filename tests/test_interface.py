"""Whether each listed name is defined in its file, with the listed parameters."""

import importlib
import inspect
import unittest

FUNCTIONS = {
    "errors": {"told_error": "(error)"},
    "labels": {"in_order": "(labels)"},
    "values": {
        "is_name": "(value)", "is_integer": "(value)", "is_count": "(value)",
        "is_value": "(sort, value, *, may_be_empty=False)", "value_text": "(value)", "read_value": "(text)",
        "in_value_order": "(values)",
    },
    "texts": {"parts_of": "(text)"},
    "entries": {"entry_of": "(told)"},
    "joining": {"combinations": "(world, query)"},
    "answers": {"answer": "(world, query)", "basis": "(world, query, position)"},
    "rules": {"remove_set": "(world, text, key)", "emptied": "(world, text, key)"},
    "statistics": {"statistics": "(world)", "rounded": "(count)"},
    "plans": {
        "estimate": "(world, query, plan)", "best_plan": "(world, query)", "explained": "(world, query)",
        "measure": "(world, query, *, within=None)",
    },
    "memos": {"differing": "(world, other)"},
    "replicas": {"deliver": "(replica, keeper, label, count)"},
    "releases": {"may_release": "(world, user, mark)"},
    "desk": {"columns_text": "(rows, *, width=10)"},
    "histories": {
        "played": "(desk, history)", "transcript": "(told, users, label)", "purge": "(told, history, users, label)",
    },
}
CLASSES = {
    "labels": {
        "Label": {
            "__init__": "(self, *marks)", "is_below": "(self, other)", "below": "(self)", "__len__": "(self)",
            "__str__": "(self)", "__repr__": "(self)", "__eq__": "(self, other)", "__or__": "(self, other)",
            "__and__": "(self, other)", "__contains__": "(self, mark)",
        },
    },
    "layers": {
        "Layers": {
            "__init__": "(self)", "put_row": "(self, label, row)", "mark_gone": "(self, label, key)",
            "drop_entry": "(self, label, key)", "entry": "(self, label, key)", "layer": "(self, label)",
            "overlay": "(self, label)", "clone": "(self)", "__len__": "(self)", "__eq__": "(self, other)",
        },
    },
    "expressions": {
        "Expression": {
            "__init__": "(self, text)", "parts": "(self)", "columns": "(self)", "sort_in": "(self, columns)",
            "value_in": "(self, values)", "__len__": "(self)", "__str__": "(self)", "__repr__": "(self)",
            "__eq__": "(self, other)",
        },
    },
    "queries": {
        "Query": {
            "__init__": "(self, text)", "sources": "(self)", "item_list": "(self)", "where": "(self)", "groups": "(self)",
            "orders": "(self)", "most_rows": "(self)", "columns_in": "(self, sources)", "bound": "(self, sources)",
            "__str__": "(self)", "__repr__": "(self)", "__eq__": "(self, other)",
        },
    },
    "entries": {
        "Table": {"__init__": "(self, name, columns)"},
        "View": {"__init__": "(self, name, query)"},
        "Check": {"__init__": "(self, name, table, condition)"},
        "Reference": {"__init__": "(self, name, table, column, target, *, rule='restrict')"},
        "Index": {"__init__": "(self, name, table, column)"},
        "Right": {"__init__": "(self, name, user, mark)"},
    },
    "base": {
        "Base": {
            "__init__": "(self, *marks)", "define": "(self, label, entry)", "drop": "(self, label, kind, name)",
            "put_row": "(self, label, source, row)", "mark_gone": "(self, label, source, key)",
            "drop_entry": "(self, label, source, key)", "apply": "(self, label, changes)", "entries": "(self, label)",
            "layer": "(self, label, source)", "world": "(self, label)", "clone": "(self)", "__eq__": "(self, other)",
        },
    },
    "worlds": {
        "World": {
            "entries": "(self, kind=None)", "suspended_entries": "(self)", "entry": "(self, kind, name, label)",
            "tables": "(self)", "source_id": "(self, text)", "columns": "(self, text)", "rows": "(self, text)",
            "standing_row": "(self, text, key)", "suspended": "(self)", "__len__": "(self)", "__eq__": "(self, other)",
        },
    },
    "writes": {
        "Writer": {
            "__init__": "(self, base, label, *, session=0, given=0)", "add_row": "(self, table, values)",
            "change_row": "(self, table, key, columns)", "take_row": "(self, table, key)",
            "revert_row": "(self, table, key)", "define": "(self, entry)", "drop": "(self, kind, name)",
            "changes": "(self)",
        },
    },
    "indexes": {
        "IndexTree": {
            "__init__": "(self)", "put_entry": "(self, label, value, key)", "take_entry": "(self, label, value, key)",
            "entries_at": "(self, label, value)", "steps": "(self, label, value)", "different": "(self, label)",
            "__len__": "(self)",
        },
    },
    "sessions": {
        "Engine": {
            "__init__": "(self, *marks)", "base_copy": "(self)", "open_session": "(self, label)", "commits": "(self, label)",
        },
        "Session": {
            "begin": "(self)", "do": "(self, command)", "commit": "(self)", "abandon": "(self)", "refresh": "(self, view)",
            "memo": "(self, view)", "forget": "(self, view)",
        },
    },
    "journals": {
        "Keeper": {
            "__init__": "(self, *marks)", "flush": "(self, label)", "length": "(self, label)", "safe": "(self, label)",
            "durable": "(self, label)", "records": "(self, label)", "arrive": "(self, label, table, rows)",
            "crash": "(self, kept=None)", "compact": "(self, label, count)",
        },
    },
    "replicas": {
        "Replica": {
            "__init__": "(self, label, *marks)", "length": "(self, label)", "receive": "(self, label, *records)",
            "present_cut": "(self)", "world": "(self, label)", "ask": "(self, label, text, *, at_least=None)",
        },
    },
    "desk": {
        "Desk": {
            "__init__": "(self, *marks, replicas=())", "add_user": "(self, name, label)", "users": "(self)",
            "line": "(self, user, text)", "crash": "(self, kept=None)", "deliver": "(self, replica, label, count)",
            "read_at": "(self, replica, user, text)", "arrive": "(self, label, table, rows)", "keeper": "(self)",
            "event": "(self, event)",
        },
    },
}
PROPERTIES = (("labels", "Label", "marks"), ("expressions", "Expression", "text"), ("queries", "Query", "text"),
              ("queries", "Query", "is_grouped"), ("base", "Base", "marks"), ("worlds", "World", "label"),
              ("writes", "Writer", "given"), ("sessions", "Engine", "marks"), ("sessions", "Session", "label"),
              ("sessions", "Session", "session_number"), ("sessions", "Session", "in_transaction"), ("sessions", "Session", "given"),
              ("replicas", "Replica", "label"), ("replicas", "Replica", "marks"))
GENERATORS = (("labels", "Label", "below"), ("layers", "Layers", "overlay"), ("worlds", "World", "rows"),
              ("journals", "Keeper", "records"))


def module(name):
    return importlib.import_module(f"aboveless.{name}")


class InterfaceTest(unittest.TestCase):
    def test_functions(self):
        for file, functions in FUNCTIONS.items():
            for name, parameters in functions.items():
                function = getattr(module(file), name)
                self.assertEqual(function.__module__, f"aboveless.{file}")
                self.assertEqual(str(inspect.signature(function)), parameters, name)

    def test_methods_stand_in_the_class_itself(self):
        for file, classes in CLASSES.items():
            for name, methods in classes.items():
                made = getattr(module(file), name)
                self.assertEqual(made.__module__, f"aboveless.{file}")
                for method, parameters in methods.items():
                    self.assertEqual(str(inspect.signature(vars(made)[method])), parameters, (name, method))

    def test_methods_of_entries(self):
        for name in CLASSES["entries"]:
            made = vars(getattr(module("entries"), name))
            for method, parameters in (("sources", "(self)"), ("bound", "(self, sources)"), ("told", "(self)")):
                self.assertEqual(str(inspect.signature(made[method])), parameters, (name, method))
            self.assertIsInstance(made["KIND"], str)

    def test_properties_and_class_methods(self):
        for file, name, method in PROPERTIES:
            self.assertIsInstance(vars(getattr(module(file), name))[method], property)
        self.assertIsInstance(vars(module("labels").Label)["of_text"], classmethod)
        self.assertEqual(str(inspect.signature(module("labels").Label.of_text)), "(text)")

    def test_generators(self):
        for file, name, method in GENERATORS:
            self.assertTrue(inspect.isgeneratorfunction(vars(getattr(module(file), name))[method]))
        self.assertTrue(inspect.isgeneratorfunction(module("joining").combinations))


if __name__ == "__main__":
    unittest.main()
