"""[33] errors.py."""

import unittest

from justthepart.errors import BadNet, BadPaper, BadRoom, BadText, BadThing, GuardError


class Errors(unittest.TestCase):
    def test_all_are_guard_errors(self):
        self.assertTrue(issubclass(GuardError, Exception))
        for kind in (BadThing, BadText, BadNet, BadPaper, BadRoom):
            self.assertTrue(issubclass(kind, GuardError))
            self.assertIsNot(kind, GuardError)

    def test_none_is_under_another_one(self):
        kinds = (BadThing, BadText, BadNet, BadPaper, BadRoom)
        for kind in kinds:
            for other in kinds:
                self.assertEqual(issubclass(kind, other), kind is other)

    def test_bad_thing(self):
        for thing in (None, 3, (1, 2), [1], "x", 10 ** 6000):
            with self.assertRaises(GuardError) as caught:
                raise BadThing(thing)
            self.assertIs(caught.exception.thing, thing)
            self.assertIsInstance(str(caught.exception), str)

    def test_bad_text(self):
        with self.assertRaises(GuardError) as caught:
            raise BadText(3, 14)
        self.assertEqual((caught.exception.line, caught.exception.column), (3, 14))
        self.assertEqual(str(caught.exception), "line 3, column 14")

    def test_bad_net_and_bad_room(self):
        for kind in (BadNet, BadRoom):
            with self.assertRaises(GuardError) as caught:
                raise kind("ab", "no bus of it")
            self.assertEqual((caught.exception.name, caught.exception.why), ("ab", "no bus of it"))
            self.assertEqual(str(caught.exception), "ab: no bus of it")

    def test_bad_paper(self):
        with self.assertRaises(GuardError) as caught:
            raise BadPaper("a row is lacking")
        self.assertEqual(caught.exception.why, "a row is lacking")
        self.assertEqual(str(caught.exception), "a row is lacking")

    def test_arguments_by_name(self):
        self.assertEqual(BadThing(thing=1).thing, 1)
        self.assertEqual(BadText(line=1, column=2).column, 2)
        self.assertEqual(BadNet(name="a", why="b").why, "b")
        self.assertEqual(BadPaper(why="b").why, "b")
        self.assertEqual(BadRoom(name="a", why="b").name, "a")


if __name__ == "__main__":
    unittest.main()
