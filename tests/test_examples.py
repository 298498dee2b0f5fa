"""The examples of the interface, word for word, in its order: later ones use names of those ahead."""

import doctest
import importlib
import unittest

EXAMPLES = {
    "polys": ("whole roots sign_on", """
    >>> whole(((1, 2), (-3, 4), (0, 1))), roots((2, -3, 0)), roots((1, -4, 2)), roots((1, -2, 1)), sign_on((1, -3, 0), ("root", (1, -4, 2), 0))
    ((2, -3, 0), [(2, 3)], [('root', (1, -4, 2), 0), ('root', (1, -4, 2), 1)], [(1, 1)], 1)
"""),
    "places": ("is_place order_of places_of cells_of sample is_still", """
    >>> is_place((1, 3)), is_place((2, 6)), order_of((1, 3), ("root", (1, -4, 2), 0)), cells_of([(1, -2, 0)]), is_still((1, -3, 0), ("between", (0, 1), (1, 2)))
    (True, False, 1, [('between', (0, 1), (1, 2)), ('at', (1, 2)), ('between', (1, 2), (1, 1))], False)
"""),
    "nettexts": ("net_text read_net", r"""
    >>> top = "bus a\nbus b\nline ab a b 10\nsource g a 3\nerror 1/10\nbreaker 1 2\nticks 10\n"
    >>> late = "guard f0 behind ab.0 delay 2 opens ab.1 g\nguard e1 difference a 1/1000 delay 0 opens ab.0 g\nguard e2 difference a 1/1000 delay 0 opens ab.0 g\n"
    >>> last = "guard z1 difference b 1/1000 delay 0 opens ab.1\nguard z2 reach ab.0 12 delay 4 opens ab.0"
    >>> both = "guard d1 difference ab 1/1000 delay 0 opens ab.0 ab.1\nguard d2 difference ab 1/1000 delay 0 opens ab.0 ab.1\n"
    >>> net = read_net(top + both + late + last)
    >>> net[:3], net[3][2], net[4], read_net(net_text(net)) == net
    ((('a', 'b'), (('ab', 'a', 'b', 10),), (('g', 'a', 3),)), ('f0', ('behind', ('ab', 0)), 2, (('ab', 1), ('g', 0))), ((1, 10), 1, 2, 10), True)
"""),
    "nets": ("check_net is_net", """
    >>> is_net(net), is_net(net[:4]), check_net(net)
    (True, False, None)
"""),
    "currents": ("flows into_fault", """
    >>> fault = ("line", "ab")
    >>> told = flows(net, (), fault)
    >>> into_fault(net, told, fault) == told[2][("ab", 0)], told[1]["b"], into_fault(net, flows(net, (("g", 0),), fault), fault)
    (True, ((0, 1), (0, 1), (0, 1)), ((0, 1), (0, 1), (0, 1)))
"""),
    "seeing": ("Seen", """
    >>> seen = Seen(net, fault, (1, 2))
    >>> seen.at(()), seen.at((("ab", 0),)), seen.fault
    ((2, 2, 2, 0, 0, 0, 2), (0, 0, 0, 0, 0, 0, 0), ('line', 'ab'))
"""),
    "world": ("beginning failings followers may_open is_right", """
    >>> followers(net, seen, beginning(net), None), len(failings(net)), sorted(may_open(net, ("bus", "b"), None)), is_right(net, seen, beginning(net), None)
    ([((), (1, 1, 0, 0, 0, 0, 1), ((('ab', 0), 0), (('ab', 1), 0)))], 10, [('ab', 0), ('ab', 1)], False)
"""),
    "searching": ("judge", """
    >>> verdict = judge(net)
    >>> verdict[0], judge((*net[:3], net[3][2:], net[4]))[0]
    ('selective', 'astray')
"""),
    "papers": ("check_paper is_shown goes_astray verdict_holds", """
    >>> is_shown(net, verdict[1]), is_shown(net, verdict[1][1:]), goes_astray(net, verdict), verdict_holds(net, verdict)
    (True, False, False, True)
"""),
    "settings": ("least_delays without_line judge_all", """
    >>> least_delays(net)[1][0], [guard[0] for guard in without_line(net, "ab")[3]], [pair[0] for pair in judge_all(net)]
    ('selective', ['e1', 'e2'], [None, 'ab'])
"""),
}


class Examples(unittest.TestCase):
    def test_word_for_word(self):
        known = {}
        for file, (names, text) in EXAMPLES.items():
            with self.subTest(file=file):
                module = importlib.import_module("justthepart." + file)
                for name in names.split():
                    known[name] = getattr(module, name)
                    # The interface asks for each function and class to be defined in this very file.
                    self.assertEqual(known[name].__module__, module.__name__, name)
                test = doctest.DocTestParser().get_doctest(text, known, file, None, 0)
                many = len(test.examples)
                told = doctest.DocTestRunner(verbose=False).run(test, clear_globs=False)
                self.assertEqual((told.failed, told.attempted), (0, many))
                known.update(test.globs)


if __name__ == "__main__":
    unittest.main()
