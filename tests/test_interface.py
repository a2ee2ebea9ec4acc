"""The interface: names, arguments, and the file in which each of them is defined."""

import importlib
import inspect
import unittest

FUNCTIONS = {
    "words": {
        "is_integer": "(value, low, high)", "is_name": "(value)", "is_list": "(value)", "is_path": "(value)",
        "parts_of": "(path)", "joined": "(path, *names)", "above": "(path)", "is_below": "(path, other)",
        "parse_integer": "(text, *, low=0, high=999999)", "split_words": "(text, *, separator=' ')",
    },
    "rights": {"is_rights": "(value)", "as_rights": "(value)"},
    "lists": {"is_digits": "(value)", "without_letters": "(digits, umask)"},
    "house": {
        "lacking": "(house, user, path)", "may": "(house, user, path, letters)", "who_may": "(house, path, letters)",
        "letters_at": "(house, user, path)",
    },
    "deeds": {"is_deed": "(value)", "do": "(house, deed)", "run": "(house, deeds)"},
    "seats": {"tried": "(house, deeds)"},
    "makers": {
        "is_script": "(value)", "made": "(script, start, *, first='own')", "alike": "(one, other)",
        "without_effect": "(script)",
    },
    "futures": {"is_closed": "(house, free, table)"},
    "goals": {
        "is_goal": "(house, free, goal)", "is_met": "(house, free, goal, deeds)", "decide": "(house, free, goal)",
        "check": "(house, free, goal, answer)", "support": "(house, deeds)",
    },
    "teams": {
        "smallest_teams": "(house, goal)", "greatest_harmless": "(house, goal)",
        "check_teams": "(house, goal, smallest, greatest)", "more_by": "(house, free, user)",
    },
    "mends": {
        "is_change": "(house, value)", "changed": "(house, changes)",
        "fewest_mend": "(house, never, keeps, *, most=2)", "check_mend": "(house, never, keeps, answer, *, most=2)",
    },
    "texts": {
        "house_text": "(house)", "read_house": "(text)", "deeds_text": "(deeds)", "read_deeds": "(text)",
        "goal_text": "(goal)", "read_goal": "(text)",
    },
}

CLASSES = {
    ("rights", "Rights"): {
        "": "(letters='')", "listed": "(self)", "covers": "(self, other)", "of": "(*parts)", "from_digit": "(digit)",
        "__or__": "(self, other)", "__and__": "(self, other)", "__sub__": "(self, other)", "__xor__": "(self, other)",
        "__invert__": "(self)", "__eq__": "(self, other)", "__contains__": "(self, value)", "__len__": "(self)",
        "__bool__": "(self)", "__str__": "(self)",
    },
    ("lists", "AccessList"): {
        "": "(owner, group, other, *, users=None, groups=None, mask=None)", "users": "(self)", "groups": "(self)",
        "entries": "(self)", "with_entry": "(self, kind, rights, *, name='')", "without": "(self, kind, name)",
        "with_digits": "(self, digits)", "narrowed": "(self, digits)", "plain": "(digits)", "from_text": "(text)",
        "everything": "()", "__eq__": "(self, other)", "__str__": "(self)", "__len__": "(self)",
    },
    ("people", "People"): {
        "": "(members)", "users": "(self)", "groups": "(self)", "groups_of": "(self, user)",
        "first_group": "(self, user)", "members": "(self, group)", "__contains__": "(self, value)", "__len__": "(self)",
        "__eq__": "(self, other)",
    },
    ("judge", "Judge"): {
        "": "(people)", "__call__": "(self, user, owner, group, access, letters)",
        "deciding": "(self, user, owner, group, access, letters)", "letters_of": "(self, user, owner, group, access)",
    },
    ("house", "Node"): {"__eq__": "(self, other)"},
    ("house", "House"): {
        "": "(people)", "__getitem__": "(self, path)", "__setitem__": "(self, path, access)",
        "__contains__": "(self, value)", "__len__": "(self)", "__eq__": "(self, other)", "paths": "(self)",
        "names_in": "(self, path)", "walk": "(self, path='/')",
        "add": "(self, path, kind, *, owner='root', group='root', access=None, content='')", "cut": "(self, path)",
        "shift": "(self, path, to)", "give": "(self, path, *, owner=None, group=None)",
        "mark": "(self, path, *, sticky=None, passes=None)", "set_default": "(self, path, access)",
        "set_content": "(self, path, content)", "set_umask": "(self, user, digits)", "umask_of": "(self, user)",
        "copied": "(self)", "restore": "(self, kept)",
    },
    ("seats", "Seat"): {
        "": "(house, user)", "read": "(self, path)", "write": "(self, path, content)",
        "file": "(self, path, *, mode='666')", "folder": "(self, path, *, mode='777')", "move": "(self, path, to)",
        "remove": "(self, path)", "allow": "(self, path, access)", "set_default": "(self, path, access)",
        "mark": "(self, path, *, sticky, passes)", "give": "(self, path, group)", "set_umask": "(self, digits)",
    },
    ("seats", "Trial"): {"": "(house)", "__enter__": "(self)", "__exit__": "(self, kind, value, trace)"},
    ("seats", "History"): {
        "": "(house)", "do": "(self, deed)", "undo": "(self)", "deeds": "(self)", "__len__": "(self)",
    },
    ("makers", "Start"): {"": "(*, default=None, group='root', passes=False, umask='000')", "__eq__": "(self, other)"},
    ("futures", "Future"): {
        "": "(house, free)", "reaches": "(self, user, path)", "can": "(self, user, path, letters)",
        "takes": "(self, user, path)", "opened": "(self)", "away": "(self)", "table": "(self)", "is_so": "(self, goal)",
        "each_goal": "(self)",
    },
    ("sessions", "Session"): {
        "": "()", "house": "(self)", "execute": "(self, line)", "execute_all": "(self, lines)", "log": "(self)",
    },
}

PROPERTIES = {
    ("rights", "Rights"): ["digit"],
    ("lists", "AccessList"): ["owner", "group", "other", "mask", "digits"],
    ("house", "Node"): ["kind", "owner", "group", "access", "sticky", "passes", "default", "content", "number"],
    ("house", "House"): ["people"],
    ("seats", "Seat"): ["user", "umask"],
    ("makers", "Start"): ["default", "group", "passes", "umask"],
    ("futures", "Future"): ["free"],
}

WRAPPERS = {
    ("rights", "Rights"): {"of": classmethod, "from_digit": classmethod},
    ("lists", "AccessList"): {"plain": classmethod, "from_text": classmethod, "everything": staticmethod},
}


def module(name):
    return importlib.import_module(f"filerights.{name}")


class InterfaceTest(unittest.TestCase):
    def test_functions(self):
        for file in FUNCTIONS:
            for name, told in FUNCTIONS[file].items():
                found = getattr(module(file), name)
                self.assertEqual(str(inspect.signature(found)), told, name)
                self.assertEqual(found.__module__, f"filerights.{file}")

    def test_classes(self):
        for (file, name), methods in CLASSES.items():
            found = getattr(module(file), name)
            self.assertEqual(found.__module__, f"filerights.{file}")
            for method, told in methods.items():
                if method:
                    self.assertIn(method, vars(found))
                self.assertEqual(str(inspect.signature(getattr(found, method) if method else found)), told, method)

    def test_properties(self):
        for (file, name), properties in PROPERTIES.items():
            for told in properties:
                self.assertIsInstance(vars(getattr(module(file), name))[told], property)

    def test_class_and_static_methods(self):
        for (file, name), methods in WRAPPERS.items():
            for method, wrapper in methods.items():
                self.assertIsInstance(vars(getattr(module(file), name))[method], wrapper)

    def test_the_state_is_a_field_of_each_house(self):
        people = module("people").People({"ann": ["staff"]})
        self.assertIn("state", vars(module("house").House(people)))

    def test_generators(self):
        self.assertTrue(inspect.isgeneratorfunction(module("house").House.walk))
        self.assertTrue(inspect.isgeneratorfunction(module("futures").Future.each_goal))


if __name__ == "__main__":
    unittest.main()
