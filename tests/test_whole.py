"""What holds over all modules: the interface, and what becomes of what is handed in and told."""

import copy
import inspect
import unittest
from importlib import import_module

from parkrow.errors import BadPath, BadStanding, BadText, BadTree, BadWishes, TooMany

# Module, name, arguments as the document names them, and inputs that are answered.
INTERFACE = (
    ("streets", "parked", "places wishes", ((5, [0, 3, 3]), (5, [4, 4]), (1, []), (3, [0, 1, 2]))),
    ("streets", "taken", "places wishes", ((5, [3, 0, 3]), (3, [2, 2]), (1, []), (3, [0, 1, 2]))),
    ("streets", "driven_off", "places wishes", ((3, [2, 2, 0]), (5, [0]), (1, []), (1, [0, 0]))),
    ("streets", "lucky", "places wishes", ((5, [0, 3, 3]), (3, [0, 1, 2]), (1, []), (2, [1, 1]))),
    ("streets", "drives", "wishes", (([0, 0, 1],), ([],))),
    ("rings", "ring", "places wishes", ((5, [3, 3, 3]), (3, [0, 1, 2]), (1, []))),
    ("rings", "turning", "wishes", (([3, 3, 3],), ([],))),
    ("rings", "turned", "wishes by", (([3, 3, 3], 1), ([2, 0], 0), ([], 7))),
    ("trees", "tree", "wishes", (([1, 0, 3, 0],), ([0, 1, 2],), ([0, 0],), ([],))),
    ("trees", "wishes_of", "parents", (([3, 3, 0, 2],), ([0, 1, 2],), ([0, 0],), ([],))),
    ("paths", "path", "wishes", (([0, 3, 0, 1],), ([],))),
    ("paths", "beneath", "text", (("uududdud",), ("",))),
    ("paths", "rising", "text", (("uududdud",), ("",))),
    ("standings", "reaches", "standing", (([2, 0, 1, 4, 3],), ([0],), ([],))),
    ("standings", "how_many", "standing", (([2, 0, 1, 4, 3],), ([0],), ([],))),
    ("standings", "from_steps", "standing steps", (([2, 0, 1], [0, 0, 1]), ([0, 1], [0, 0]), ([0, 1], [0, 1]), ([], []))),
    ("texts", "written", "places wishes", ((5, [0, 3, 3]), (1, []))),
    ("texts", "read", "text", (("5: 0 3 3",), ("1:",))),
)

# What is refused, with lists that would show it if a refusal changed them.
REFUSED = (
    (BadWishes, "trees", "tree", ([2, 1, True],)),
    (TooMany, "trees", "tree", ([2, 1, 2],)),
    (BadTree, "trees", "wishes_of", ([2, 1, 0],)),
    (BadTree, "trees", "wishes_of", ([0, True, 0],)),
    (BadWishes, "paths", "path", ([2, 1, 3],)),
    (TooMany, "paths", "path", ([2, 1, 2],)),
    (BadPath, "paths", "beneath", (["u", "d"],)),
    (BadPath, "paths", "rising", (["u", "d"],)),
    (BadStanding, "standings", "reaches", ([2, 0, 2],)),
    (BadStanding, "standings", "how_many", ([2, 0, False],)),
    (BadStanding, "standings", "from_steps", ([2, 0, 1], [0, 1, 0])),
    (BadStanding, "standings", "from_steps", ([2, 0, 2], [0, 0, 0])),
    (BadWishes, "texts", "written", (3, [2, 0, 3])),
    (BadText, "texts", "read", (["5:"],)),
)


def found(module, name):
    return getattr(import_module("parkrow." + module), name)


def answered():
    return [(found(module, name), handed) for module, name, names, inputs in INTERFACE for handed in inputs]


def plain(told):
    """A telling that no later change of the answer changes."""
    return (type(told), copy.deepcopy(vars(told))) if hasattr(told, "__dict__") else copy.deepcopy(told)


def lists_of(told):
    """The lists that an answer is, holds in a pair, or has as a field."""
    within = told if isinstance(told, tuple) else vars(told).values() if hasattr(told, "__dict__") else (told,)
    return [one for one in within if isinstance(one, list)]


class Interface(unittest.TestCase):
    def test_names_and_arguments(self):
        for module, name, names, inputs in INTERFACE:
            with self.subTest(module=module, name=name):
                parameters = inspect.signature(found(module, name)).parameters.values()
                self.assertEqual([one.name for one in parameters], names.split())
                self.assertTrue(all(one.default is inspect.Parameter.empty for one in parameters))


class HandedInAndTold(unittest.TestCase):
    def test_what_is_handed_in_is_unchanged(self):
        for function, handed in answered():
            with self.subTest(function=function.__name__, handed=handed):
                given = copy.deepcopy(handed)
                function(*given)
                self.assertEqual(given, handed)

    def test_what_is_refused_is_unchanged_too(self):
        for error, module, name, handed in REFUSED:
            with self.subTest(name=name, handed=handed):
                given = copy.deepcopy(handed)
                self.assertRaises(error, found(module, name), *given)
                self.assertEqual(repr(given), repr(handed))

    def test_a_told_list_is_new_each_time_and_the_askers_own(self):
        for function, handed in answered():
            with self.subTest(function=function.__name__, handed=handed):
                given = copy.deepcopy(handed)
                one, other = function(*given), function(*given)
                before = plain(other)
                for told in lists_of(one):
                    told.append(7)
                    told[0] = 8
                self.assertEqual(given, handed)
                self.assertEqual(plain(other), before)
                self.assertEqual(plain(function(*given)), before)

    def test_a_later_change_of_what_was_handed_in_changes_no_answer(self):
        for function, handed in answered():
            with self.subTest(function=function.__name__, handed=handed):
                given = copy.deepcopy(handed)
                told = function(*given)
                before = plain(told)
                for one in lists_of(given):
                    one.append(7)
                    one[0] = 8
                self.assertEqual(plain(told), before)
                self.assertEqual(plain(function(*copy.deepcopy(handed))), before)

    def test_a_change_in_between_is_seen(self):
        wishes = [0, 0]
        before = [found(module, name)(wishes) for module, name in (("trees", "tree"), ("paths", "path"))]
        wishes[1] = 1
        after = [found(module, name)(wishes) for module, name in (("trees", "tree"), ("paths", "path"))]
        self.assertEqual((before, after), ([[0, 0], "uudd"], [[0, 1], "udud"]))
        standing = [0, 1]
        self.assertEqual(found("standings", "how_many")(standing), 2)
        standing.reverse()
        self.assertEqual(found("standings", "how_many")(standing), 1)


if __name__ == "__main__":
    unittest.main()
