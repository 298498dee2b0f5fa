"""The examples of the interface, word for word, in its order: later ones use names of those ahead; and the README's."""

import contextlib
import doctest
import importlib
import io
import os
import re
import unittest

EXAMPLES = {
    "polys": ("whole roots sign_on", """
    >>> whole(((1, 2), (-3, 4), (0, 1))), roots((2, -3, 0)), roots((1, -4, 2)), roots((1, -2, 1)), sign_on((1, -3, 0), ("root", (1, -4, 2), 0))
    ((2, -3, 0), [(2, 3)], [('root', (1, -4, 2), 0), ('root', (1, -4, 2), 1)], [(1, 1)], 1)
"""),
    "places": ("is_place order_of places_of cells_of sample is_still", """
    >>> is_place((1, 3)), is_place((2, 6)), order_of((1, 3), ("root", (1, -4, 2), 0)), cells_of([(1, -2, 0)]), is_still((1, -3, 0), ("between", (0, 1), (1, 2)))
    (True, False, 1, [('between', (0, 1), (1, 2)), ('at', (1, 2)), ('between', (1, 2), (1, 1))], False)
"""),
    "nettexts": ("net_text read_net", r"""
    >>> top = "bus a\nbus b\nline ab a b 10\nsource g a 3\nerror 1/10\nbreaker 1 2\nticks 10\n"
    >>> late = "guard f0 behind ab.0 delay 2 opens ab.1 g\nguard e1 difference a 1/1000 delay 0 opens ab.0 g\nguard e2 difference a 1/1000 delay 0 opens ab.0 g\n"
    >>> last = "guard z1 difference b 1/1000 delay 0 opens ab.1\nguard z2 reach ab.0 12 delay 4 opens ab.0"
    >>> both = "guard d1 difference ab 1/1000 delay 0 opens ab.0 ab.1\nguard d2 difference ab 1/1000 delay 0 opens ab.0 ab.1\n"
    >>> net = read_net(top + both + late + last)
    >>> net[:3], net[3][2], net[4], read_net(net_text(net)) == net
    ((('a', 'b'), (('ab', 'a', 'b', 10),), (('g', 'a', 3),)), ('f0', ('behind', ('ab', 0)), 2, (('ab', 1), ('g', 0))), ((1, 10), 1, 2, 10), True)
"""),
    "nets": ("check_net is_net", """
    >>> is_net(net), is_net(net[:4]), check_net(net)
    (True, False, None)
"""),
    "currents": ("flows into_fault", """
    >>> fault = ("line", "ab")
    >>> told = flows(net, (), fault)
    >>> into_fault(net, told, fault) == told[2][("ab", 0)], told[1]["b"], into_fault(net, flows(net, (("g", 0),), fault), fault)
    (True, ((0, 1), (0, 1), (0, 1)), ((0, 1), (0, 1), (0, 1)))
"""),
    "seeing": ("Seen", """
    >>> seen = Seen(net, fault, (1, 2))
    >>> seen.at(()), seen.at((("ab", 0),)), seen.fault
    ((2, 2, 2, 0, 0, 0, 2), (0, 0, 0, 0, 0, 0, 0), ('line', 'ab'))
"""),
    "world": ("beginning failings followers may_open is_right", """
    >>> followers(net, seen, beginning(net), None), len(failings(net)), sorted(may_open(net, ("bus", "b"), None)), is_right(net, seen, beginning(net), None)
    ([((), (1, 1, 0, 0, 0, 0, 1), ((('ab', 0), 0), (('ab', 1), 0)))], 10, [('ab', 0), ('ab', 1)], False)
"""),
    "searching": ("judge", """
    >>> verdict = judge(net)
    >>> verdict[0], judge((*net[:3], net[3][2:], net[4]))[0]
    ('selective', 'astray')
"""),
    "papers": ("check_paper is_shown goes_astray verdict_holds", """
    >>> is_shown(net, verdict[1]), is_shown(net, verdict[1][1:]), goes_astray(net, verdict), verdict_holds(net, verdict)
    (True, False, False, True)
"""),
    "settings": ("least_delays without_line judge_all", """
    >>> least_delays(net)[1][0], [guard[0] for guard in without_line(net, "ab")[3]], [pair[0] for pair in judge_all(net)]
    ('selective', ['e1', 'e2'], [None, 'ab'])
"""),
    "records": ("record steps_of opened_in dark_at", r"""
    >>> run = (beginning(net), followers(net, seen, beginning(net), None)[0])
    >>> record(net, fault, (1, 2), None, run), opened_in(run), dark_at(net, (("ab", 0),)), steps_of(net, fault, (1, 2), None, record(net, fault, (1, 2), None, run).split("\n")[2:]) == [run]
    ('fault line ab at 1/2\nnothing fails\nsees d1 yes d2 yes z2 yes; orders ab.0 ab.1; opens none', [], ['b'], True)
"""),
    "rooms": ("check_room is_room as_room", """
    >>> is_room(net, ((), (), (), (), (), 0)), is_room(net, ((), (("t", ("not", "zz")),), (), (), (), 0)), len(as_room(net)[1]), check_room(net, as_room(net))
    (True, False, 7, None)
"""),
    "roomtexts": ("read_room room_text", r"""
    >>> room = read_room(net, "let t timer d1 1 0  # slower\norder ab.0 t\ngone 2")
    >>> room, read_room(net, room_text(net, room)) == room
    (((), (('t', ('timer', 'd1', 1, 0)),), (), ((('ab', 0), 't'),), (), 2), True)
"""),
    "roomworld": ("cases room_beginning RoomWorld room_may_open", """
    >>> world = RoomWorld(net, room, seen, (None, True))
    >>> start = room_beginning(room)
    >>> start, world.followers(start), world.is_right(start), len(cases(net, room)), sorted(room_may_open(net, room, ("bus", "b"), None))
    (((), ((0, 0),), (), (), 0), [((), ((1, 0),), (), (), 0)], False, 20, [('ab', 0), ('ab', 1)])
"""),
    "roomsearching": ("judge_room", """
    >>> judge_room(net, as_room(net))[0], judge_room(net, room)[0]
    ('selective', 'astray')
"""),
    "roompapers": ("check_room_paper is_room_shown room_goes_astray room_verdict_holds", """
    >>> room_verdict_holds(net, room, judge_room(net, room)), room_goes_astray(net, room, judge_room(net, room)), is_room_shown(net, room, ())
    (True, True, False)
"""),
    "times": ("latest_end least_ticks with_ticks", """
    >>> latest_end(net), least_ticks(net), with_ticks(net, 3)[4]
    (6, 7, ((1, 10), 1, 2, 3))
"""),
    "arcs": ("is_arc arc_flows ArcSeen judge_arc arc_holds safe_up_to", """
    >>> arc = (("bus", "a"), None, 1000)
    >>> verdicts = judge_arc(net, arc)
    >>> is_arc(net, arc), arc_holds(net, arc, verdicts), safe_up_to(verdicts)[1], safe_up_to(judge_arc(net, (("bus", "a"), None, 10))), ArcSeen(net, arc, (1, 2)).at(())[3]
    (True, True, (9967, 11000), None, 2)
"""),
}


class Examples(unittest.TestCase):
    def test_word_for_word(self):
        known = {}
        for file, (names, text) in EXAMPLES.items():
            with self.subTest(file=file):
                module = importlib.import_module("justthepart." + file)
                for name in names.split():
                    known[name] = getattr(module, name)
                    # The interface asks for each function and class to be defined in this very file.
                    self.assertEqual(known[name].__module__, module.__name__, name)
                test = doctest.DocTestParser().get_doctest(text, known, file, None, 0)
                many = len(test.examples)
                told = doctest.DocTestRunner(verbose=False).run(test, clear_globs=False)
                self.assertEqual((told.failed, told.attempted), (0, many))
                known.update(test.globs)

    def test_readme(self):
        # The README's pieces of code run one after the other, and tell what their remarks say.
        readme = os.path.join(os.path.dirname(os.path.dirname(os.path.abspath(__file__))), "README.md")
        with open(readme, encoding="utf-8") as file:
            pieces = re.findall(r"```python\n(.*?)```", file.read(), re.S)
        known = {}
        with contextlib.redirect_stdout(io.StringIO()):
            for piece in pieces:
                exec(compile(piece, "README.md", "exec"), known)
        net, room = known["net"], known["room"]
        self.assertEqual([known["judge_room"](net, one)[0] for one in (room, known["as_room"](net))], ["astray", "selective"])
        self.assertEqual((known["latest_end"](net), known["least_ticks"](net)), (6, 7))
        self.assertEqual(known["safe_up_to"](known["verdicts"]), ("between", (9967, 11000), (1, 1)))
        self.assertEqual(known["seen"].at(()), (2, 2, 2, 0, 0, 0, 2))
        self.assertIn("sees d1 yes d2 yes z2 yes; orders ab.0 ab.1; opens none", known["text"])

    def test_methods_stand_in_their_classes(self):
        # Each method that the interface lists is defined in the class itself.
        for file, kind, methods in (("seeing", "Seen", "at flows_at"), ("arcs", "ArcSeen", "at flows_at"),
                                    ("roomworld", "RoomWorld", "followers is_quiet is_right")):
            told = vars(getattr(importlib.import_module("justthepart." + file), kind))
            for method in methods.split():
                self.assertIn(method, told)


if __name__ == "__main__":
    unittest.main()
