"""The examples of the interface, word for word."""

import doctest
import unittest

import justthepart.places
import justthepart.polys

POLYS = """
    >>> whole(((1, 2), (-3, 4), (0, 1))), roots((2, -3, 0)), roots((1, -4, 2)), roots((1, -2, 1)), sign_on((1, -3, 0), ("root", (1, -4, 2), 0))
    ((2, -3, 0), [(2, 3)], [('root', (1, -4, 2), 0), ('root', (1, -4, 2), 1)], [(1, 1)], 1)
"""

PLACES = """
    >>> is_place((1, 3)), is_place((2, 6)), order_of((1, 3), ("root", (1, -4, 2), 0)), cells_of([(1, -2, 0)]), is_still((1, -3, 0), ("between", (0, 1), (1, 2)))
    (True, False, 1, [('between', (0, 1), (1, 2)), ('at', (1, 2)), ('between', (1, 2), (1, 1))], False)
"""


def shown(text, module, names):
    """Return what doctest finds of a text, with the names of a module."""
    known = {name: getattr(module, name) for name in names}
    for name in names:
        # The interface asks for the function to be defined in this very file.
        assert known[name].__module__ == module.__name__, name
    test = doctest.DocTestParser().get_doctest(text, known, module.__name__, None, 0)
    return doctest.DocTestRunner(verbose=False).run(test)


class Examples(unittest.TestCase):
    def test_polys(self):
        told = shown(POLYS, justthepart.polys, ("whole", "roots", "sign_on"))
        self.assertEqual((told.failed, told.attempted), (0, 1))

    def test_places(self):
        names = ("is_place", "order_of", "places_of", "cells_of", "sample", "is_still")
        told = shown(PLACES, justthepart.places, names)
        self.assertEqual((told.failed, told.attempted), (0, 1))


if __name__ == "__main__":
    unittest.main()
