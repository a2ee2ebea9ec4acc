"""The interface: names, arguments, and the file in which each of them is defined."""

import importlib
import inspect
import unittest

FUNCTIONS = {
    "words": {
        "is_integer": "(value, low, high)", "is_name": "(value)", "is_list": "(value)", "is_path": "(value)",
        "parts_of": "(path)", "joined": "(path, *names)", "above": "(path)", "is_below": "(path, other)",
        "parse_integer": "(text, *, low=0, high=999999)", "split_words": "(text, *, separator=' ')",
    },
    "rights": {"is_rights": "(value)", "as_rights": "(value)"},
    "lists": {"is_digits": "(value)", "without_letters": "(digits, umask)"},
}

CLASSES = {
    ("rights", "Rights"): {
        "": "(letters='')", "listed": "(self)", "covers": "(self, other)", "of": "(*parts)", "from_digit": "(digit)",
        "__or__": "(self, other)", "__and__": "(self, other)", "__sub__": "(self, other)", "__xor__": "(self, other)",
        "__invert__": "(self)", "__eq__": "(self, other)", "__contains__": "(self, value)", "__len__": "(self)",
        "__bool__": "(self)", "__str__": "(self)",
    },
    ("lists", "AccessList"): {
        "": "(owner, group, other, *, users=None, groups=None, mask=None)", "users": "(self)", "groups": "(self)",
        "entries": "(self)", "with_entry": "(self, kind, rights, *, name='')", "without": "(self, kind, name)",
        "with_digits": "(self, digits)", "narrowed": "(self, digits)", "plain": "(digits)", "from_text": "(text)",
        "everything": "()", "__eq__": "(self, other)", "__str__": "(self)", "__len__": "(self)",
    },
}

PROPERTIES = {
    ("rights", "Rights"): ["digit"],
    ("lists", "AccessList"): ["owner", "group", "other", "mask", "digits"],
}

WRAPPERS = {
    ("rights", "Rights"): {"of": classmethod, "from_digit": classmethod},
    ("lists", "AccessList"): {"plain": classmethod, "from_text": classmethod, "everything": staticmethod},
}


def module(name):
    return importlib.import_module(f"filerights.{name}")


class InterfaceTest(unittest.TestCase):
    def test_functions(self):
        for file in FUNCTIONS:
            for name, told in FUNCTIONS[file].items():
                found = getattr(module(file), name)
                self.assertEqual(str(inspect.signature(found)), told, name)
                self.assertEqual(found.__module__, f"filerights.{file}")

    def test_classes(self):
        for (file, name), methods in CLASSES.items():
            found = getattr(module(file), name)
            self.assertEqual(found.__module__, f"filerights.{file}")
            for method, told in methods.items():
                if method:
                    self.assertIn(method, vars(found))
                self.assertEqual(str(inspect.signature(getattr(found, method) if method else found)), told, method)

    def test_properties(self):
        for (file, name), properties in PROPERTIES.items():
            for told in properties:
                self.assertIsInstance(vars(getattr(module(file), name))[told], property)

    def test_class_and_static_methods(self):
        for (file, name), methods in WRAPPERS.items():
            for method, wrapper in methods.items():
                self.assertIsInstance(vars(getattr(module(file), name))[method], wrapper)


if __name__ == "__main__":
    unittest.main()
