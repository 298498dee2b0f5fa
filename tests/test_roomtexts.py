"""[24] Texts of rooms."""

import random
import unittest

from drawn import hazy_net, kept_net, net_of_all_kinds, wild_net
from drawnrooms import guards_room, wild_room
from justthepart.errors import BadRoom, BadText
from justthepart.rooms import as_room, check_room
from justthepart.roomtexts import read_room, room_text
from roomsamples import FULL, NET_WORDS, NOTHING, ROOM_WORDS
from samples import EXAMPLE, KINDS, VILLAGE, strange_things, with_guards

AB0, AB1, G = ("ab", 0), ("ab", 1), ("g", 0)
HEAD = "channel c1 1 2\nlet l1 not d1\n"


class Case(unittest.TestCase):
    def assert_wrong(self, text, line, column, net=EXAMPLE):
        """Assert that a text is wrong at a line and column."""
        with self.assertRaises(BadText) as caught:
            read_room(net, text)
        self.assertEqual((caught.exception.line, caught.exception.column), (line, column), text)

    def assert_spot(self, marked, head=HEAD):
        """Assert that a row behind some others is wrong at the sign behind the mark ^, which is taken out."""
        self.assertEqual(marked.count("^"), 1, marked)
        for more in ("", "\n", "\nlet", "\n" + marked.replace("^", "")):
            self.assert_wrong(head + marked.replace("^", "") + more, head.count("\n") + 1, marked.index("^") + 1)

    def assert_no_room(self, text, net=EXAMPLE):
        """Assert that a text reads well, but tells no room."""
        with self.assertRaises(BadRoom):
            read_room(net, text)

    def assert_let(self, row, what, net=EXAMPLE):
        """Assert that a row tells a let, and what it is."""
        self.assertEqual(read_room(net, HEAD + row)[1][1:], (what,))


class Reading(Case):
    def test_nothing(self):
        for text in ("", "\n", "   ", "# nothing", "\n\n  # a\n", "gone 0"):
            self.assertEqual(read_room(EXAMPLE, text), NOTHING)

    def test_an_ordinary_text(self):
        room = read_room(EXAMPLE, "channel c1 1 2\nlet t timer d1 3 4\nsend c1 t\nlet n got c1\norder ab.1 n\norder g t\nshut ab.0 n\ngone 7")
        self.assertEqual(room, ((("c1", 1, 2),), (("t", ("timer", "d1", 3, 4)), ("n", ("got", "c1"))), (("c1", "t"),),
                                ((AB1, "n"), (G, "t")), ((AB0, "n"),), 7))

    def test_kinds_of_lets(self):
        self.assert_let("let x and d1", ("x", ("and", ("d1",))))
        self.assert_let("let x and d1 l1 d2 d1", ("x", ("and", ("d1", "l1", "d2", "d1"))))
        self.assert_let("let x or d2 d1", ("x", ("or", ("d2", "d1"))))
        self.assert_let("let x or l1", ("x", ("or", ("l1",))))
        self.assert_let("let x not l1", ("x", ("not", "l1")))
        self.assert_let("let x timer z2 0 20", ("x", ("timer", "z2", 0, 20)))
        self.assert_let("let x latch d1 l1", ("x", ("latch", "d1", "l1")))
        self.assert_let("let x got c1", ("x", ("got", "c1")))
        self.assert_let("let x open ab.1", ("x", ("open", AB1)))
        self.assert_let("let x open g", ("x", ("open", G)))
        # Names that are a bus's, a line's, a source's.
        self.assert_let("let ab not d1", ("ab", ("not", "d1")))

    def test_rows_in_other_orders(self):
        rows = room_text(EXAMPLE, FULL).split("\n")
        draw = random.Random(81)
        for _ in range(30):
            other = list(rows)
            draw.shuffle(other)
            kept = [row for row in other if row.split()[0] not in ("let", "channel")]
            # Lets and channels keep the order of their lines.
            lets = [row for row in rows if row.split()[0] in ("let", "channel")]
            mixed = []
            while kept or lets:
                mixed.append((kept if not lets or kept and draw.random() < 0.5 else lets).pop(0))
            self.assertEqual(read_room(EXAMPLE, "\n".join(mixed)), FULL)
        room = read_room(EXAMPLE, "let b not d1\nchannel z 1 1\nlet a not d2\nchannel c 1 1\nsend z a\norder g a\nsend c b\norder ab.0 b\norder ab.0 a")
        self.assertEqual(room, ((("z", 1, 1), ("c", 1, 1)), (("b", ("not", "d1")), ("a", ("not", "d2"))), (("c", "b"), ("z", "a")),
                                ((AB0, "a"), (AB0, "b"), (G, "a")), (), 0))

    def test_what_is_told_later(self):
        self.assertEqual(read_room(EXAMPLE, "send c1 x\norder ab.0 x\nshut g x\nlet x got c1\nchannel c1 1 1"),
                         ((("c1", 1, 1),), (("x", ("got", "c1")),), (("c1", "x"),), ((AB0, "x"),), ((G, "x"),), 0))
        # But a let asks only lets ahead.
        self.assert_no_room("let x not y\nlet y not d1")
        self.assertEqual(len(read_room(EXAMPLE, "let y not d1\nlet x not y")[1]), 2)

    def test_gone(self):
        for text, gone in (("gone 0", 0), ("gone 10", 10), ("  gone   3 # ticks", 3), ("", 0)):
            self.assertEqual(read_room(EXAMPLE, HEAD + text)[5], gone)
        self.assert_no_room("gone 11")
        self.assert_no_room("gone 1000")
        for number in ("1001", "01", "00", "12345"):
            self.assert_spot(f"gone ^{number}", "")
        self.assert_wrong("gone 1\ngone 1", 2, 1)
        self.assert_wrong("gone 0\nlet x not d1\n  gone", 3, 3)
        self.assert_wrong("gone 0\n gone 3 x", 2, 2)
        self.assert_wrong("gone 0\ngone/", 2, 1)
        self.assert_wrong("gone 0\ngones", 2, 1)

    def test_blanks_comments_and_empty_lines(self):
        plain = room_text(EXAMPLE, FULL)
        self.assertEqual(read_room(EXAMPLE, "\n \n#\n  # a\n" + plain + "\n\n"), FULL)
        self.assertEqual(read_room(EXAMPLE, plain.replace(" ", "   ")), FULL)
        self.assertEqual(read_room(EXAMPLE, "\n".join("  " + row + "  " for row in plain.split("\n"))), FULL)
        self.assertEqual(read_room(EXAMPLE, "\n".join(row + "#\u00e4 LET\t\r" for row in plain.split("\n"))), FULL)
        self.assertEqual(read_room(EXAMPLE, "\n".join(row + "  # let x #" for row in plain.split("\n"))), FULL)

    def test_numbers(self):
        for row in ("channel x {} 2", "channel x 1 {}", "let x timer d1 {} 0", "let x timer d1 0 {}", "gone {}"):
            self.assert_no_room(HEAD + row.format("1000"))
            for number in ("1001", "9999", "00", "01", "0001", "12345", "1" * 5000):
                self.assert_spot(row.format("^" + number))
            for number in ("1^x", "1^/2", "1^.0", "^x", "^-1", "^x1", "^/", "0^x", "1^-"):
                self.assert_spot(row.format(number))
        self.assertEqual(read_room(EXAMPLE, "let x timer d1 0 20")[1][0][1], ("timer", "d1", 0, 20))


class Names(Case):
    ASKS = ("let x and {}", "let x and d1 {} d1", "let x or {}", "let x not {}", "let x timer {} 0 0", "let x latch {} d1",
            "let x latch d1 {}", "let x got {}", "send {} d1", "send c1 {}", "order ab.0 {}", "shut ab.0 {}", "order g {}")

    def test_words_in_the_place_of_a_new_name(self):
        for word in NET_WORDS + ROOM_WORDS:
            for row in ("channel ^{} 1 1", "let ^{} not d1", "let ^{}", "channel ^{}", "let   ^{} x"):
                self.assert_spot(row.format(word))
        for word in ("lets", "ands", "opened", "o", "gon"):
            self.assertEqual(read_room(EXAMPLE, f"let {word} not d1")[1][0][0], word)

    def test_words_in_the_place_of_names_that_are_asked(self):
        for row in self.ASKS:
            for word in NET_WORDS:
                self.assert_spot(row.format("^" + word))
            for word in ROOM_WORDS:
                self.assert_no_room(HEAD + row.format(word))

    def test_words_that_are_names_of_guards(self):
        net = with_guards(EXAMPLE, [(name, *EXAMPLE[3][0][1:]) for name in ROOM_WORDS])
        text = "let x and and or open\nlet y timer timer 1 2\nlet z latch latch x\nchannel c 1 1\nsend c let\norder ab.0 shut\nshut g gone"
        room = ((("c", 1, 1),), (("x", ("and", ("and", "or", "open"))), ("y", ("timer", "timer", 1, 2)), ("z", ("latch", "latch", "x"))),
                (("c", "let"),), ((AB0, "shut"),), ((G, "gone"),), 0)
        self.assertEqual(read_room(net, text), room)
        self.assertEqual(read_room(net, room_text(net, room)), room)

    def test_names_that_are_none(self):
        for name in ("1x", "abcdefghi", "0", "12", "a23456789", "z" * 100):
            for row in self.ASKS + ("let {} not d1", "channel {} 1 1"):
                self.assert_spot(row.format("^" + name))
        for sign in "\tABZ_-+*,;:!?/.\\\"'$~\r\x00\u00e9\u2003":
            for row in self.ASKS + ("let {} not d1", "channel {} 1 1"):
                self.assert_spot(row.format("^" + sign))
                self.assert_spot(row.format("^" + sign + "x"))
                self.assert_spot(row.format("d1^" + sign))

    def test_names_of_nothing(self):
        for row in self.ASKS:
            for name in ("zz", "a", "ab", "g"):
                self.assert_no_room(HEAD + row.format(name))
        # A channel is no name that is asked, and a name is no channel.
        self.assert_no_room(HEAD + "let x not c1")
        self.assert_no_room(HEAD + "order g c1")
        self.assert_no_room(HEAD + "let x got l1")
        self.assert_no_room(HEAD + "send l1 d1")
        self.assert_no_room(HEAD + "let d1 not d2")
        self.assert_no_room(HEAD + "let l1 not d2")
        self.assert_no_room(HEAD + "let c1 not d2")


class Breakers(Case):
    ROWS = ("order {} d1", "shut {} d1", "let x open {}")

    def test_breakers_of_the_net(self):
        for text, breaker in (("ab.0", AB0), ("ab.1", AB1), ("g", G)):
            self.assertEqual(read_room(EXAMPLE, f"order {text} d1")[3], ((breaker, "d1"),))
            self.assertEqual(read_room(EXAMPLE, f"shut {text} d1")[4], ((breaker, "d1"),))
            self.assertEqual(read_room(EXAMPLE, f"let x open {text}")[1][0][1], ("open", breaker))
        self.assertEqual(read_room(KINDS, "order twin.1 q1\norder h q1")[3], ((("h", 0), "q1"), (("twin", 1), "q1")))

    def test_wrong_ones(self):
        for row in self.ROWS:
            for spot in ("ab.^2", "ab.^", "ab.^x", "ab.^-", "ab.^.0", "ab.0^.1", "ab.0^x", "ab.1^A", "ab.0^0", "^ab", "^g.0", "^g.1",
                         "g^.2", "g^.", "g^-", "^zz.0", "^zz.1", "zz^.2", "^a.0", "^d1.1", "^let.0", "^over", "^over.0", "^1ab.0", "^abcdefghi",
                         "^A", "^.0", "^-"):
                self.assert_spot(row.format(spot))
            for name in ("zz", "a", "d1", "let", "open", "c1"):
                self.assert_no_room(HEAD + row.format(name))

    def test_a_line_of_another_net(self):
        self.assertEqual(read_room(KINDS, "order bc.1 q1")[3], ((("bc", 1), "q1"),))
        self.assert_wrong("order bc.1 d1", 1, 7)
        self.assert_wrong("order g.0 e1", 1, 7, VILLAGE)


class Wrong(Case):
    def test_no_string(self):
        for thing in strange_things() + [b"gone 1", ["gone 1"], HEAD.encode()]:
            if not isinstance(thing, str):
                self.assert_wrong(thing, 0, 0)

    def test_lines_that_end_too_early(self):
        rows = ("channel x 1 2", "let x and d1", "let x or d1", "let x not d1", "let x timer d1 1 2", "let x latch d1 d2", "let x got c1",
                "let x open ab.0", "send c1 d1", "order ab.0 d1", "shut g d1", "gone 3")
        for row in rows:
            words = row.split()
            read_room(EXAMPLE, HEAD + row)
            for many in range(1, len(words)):
                start = " ".join(words[:many])
                self.assert_spot(start + "^")
                self.assert_spot(start + "   ^")
                self.assert_spot(start + "^#")
                self.assert_spot(start + "  ^# " + words[many])
                self.assert_spot("  " + start + " ^#")

    def test_a_word_too_many(self):
        for row in ("channel x 1 2", "let x not d1", "let x timer d1 1 2", "let x latch d1 d2", "let x got c1", "let x open ab.0",
                    "let x open g", "send c1 d1", "order ab.0 d1", "shut g d1", "gone 3"):
            for word in ("d1", "3", "let", "-", ".0", "X", "\t"):
                self.assert_spot(f"{row} ^{word}")
                self.assert_spot(f" {row}   ^{word} x")
        for row in ("let x and d1", "let x or d1 d2"):
            for word in ("3", "bus", "-", ".0", "X", "\t"):
                self.assert_spot(f"{row} ^{word}")

    def test_other_words_than_must_stand_there(self):
        for row in ("^bus a", "^guard x", "^lets x not d1", "^x", "^1", "^and d1", "^timer", "^opens", "^le", "let^", "let^-", "^Let x",
                    "^-", "^.", "^\tlet x not d1", "let^\tx not d1", "let x ^xor d1", "let x ^nots d1", "let x ^3", "let x ^opens g",
                    "let x ^d1", "let x ^-", "let x not^- d1", "let x ^And d1", "let x ^over d1", "^breaker 1 2", "^error 1", "^ticks 3"):
            self.assert_spot(row)
            self.assert_spot("   " + row)

    def test_the_first_of_several_wrong_things(self):
        self.assert_spot("let ^and nots 1")
        self.assert_spot("let x ^nots 1 2")
        self.assert_spot("let x timer ^1 01 x")
        self.assert_spot("order ab.^3 1 x")
        self.assert_spot("send ^over over")
        self.assert_wrong("let x not\nlet", 1, 10)
        self.assert_wrong("let x not d1\nlet x not d1\nlet", 3, 4)
        self.assert_wrong("# gone\n\ngone 99\ngone", 4, 1)

    def test_wrong_texts_are_told_ahead_of_bad_rooms(self):
        self.assert_wrong("let x not zz\nlet d1 not d1\norder g", 3, 8)
        self.assert_no_room("let x not zz\nlet d1 not d1\norder g d1")

    def test_texts_that_tell_no_room(self):
        for text in ("let x not d1\nlet x not d1", "channel c 0 1", "channel c 2 1", "channel c 1 7", "let x timer d1 21 0", "let x timer d1 0 21",
                     "order g d1\norder g d1", "shut ab.0 d1\nshut ab.0 d1", "channel c 1 1\nsend c d1\nsend c d1",
                     "channel c 1 1\nsend c d1\nsend c d2", "send c d1", "let x got c", "let x not x",
                     "\n".join(f"let x{at} not d1" for at in range(25)), "\n".join(f"channel x{at} 1 1" for at in range(5))):
            self.assert_no_room(text)
        self.assertEqual(len(read_room(EXAMPLE, "\n".join(f"let x{at} not d1" for at in range(24)))[1]), 24)


class Writing(unittest.TestCase):
    def assert_kept(self, net, room):
        check_room(net, room)
        text = room_text(net, room)
        self.assertIsInstance(text, str)
        self.assertEqual(read_room(net, text), room)
        self.assertEqual(room_text(net, room), text)

    def test_samples(self):
        for room in (NOTHING, FULL, as_room(EXAMPLE), (FULL[0], (), (), (), (), 0), ((), (), (), FULL[3][:1], (), 10)):
            self.assert_kept(EXAMPLE, room)
        self.assert_kept(VILLAGE, NOTHING)
        self.assert_kept(KINDS, as_room(KINDS))

    def test_drawn_rooms(self):
        draw = random.Random(82)
        for _ in range(300):
            net = draw.choice((wild_net, hazy_net, kept_net, net_of_all_kinds))(draw)
            self.assert_kept(net, wild_room(draw, net, 24, 4))
            self.assert_kept(net, as_room(net))
            self.assert_kept(net, guards_room(draw, net)[:5] + (draw.randint(0, 10),))


if __name__ == "__main__":
    unittest.main()
