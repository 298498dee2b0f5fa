"""[6] Texts of nets."""

import random
import unittest

from drawn import net_of_all_kinds
from justthepart.errors import BadNet, BadText
from justthepart.nets import check_net
from justthepart.nettexts import net_text, read_net
from samples import EXAMPLE, KINDS, VILLAGE, Awkward, strange_things

HEAD = "bus a\nbus b\nline ab a b 10\nsource g a 3\n"
RULES = "error 1/10\nbreaker 1 2\nticks 10\n"
WORDS = "bus line source guard error breaker ticks over reach difference behind forward delay opens".split()


class Case(unittest.TestCase):
    def assert_wrong(self, text, line, column):
        """Assert that a text is wrong at a line and column."""
        with self.assertRaises(BadText) as caught:
            read_net(text)
        self.assertEqual((caught.exception.line, caught.exception.column), (line, column), text)

    def assert_row(self, row, column=None, head=HEAD):
        """Assert that a row behind the first four ones is wrong at a column, or that the text reads well."""
        if column is None:
            try:
                return read_net(head + row + "\n" + RULES)
            except BadNet:
                return None
        return self.assert_wrong(head + row + "\n" + RULES, head.count("\n") + 1, column)

    def assert_spot(self, marked, head=HEAD):
        """Assert that a row is wrong at the sign behind the mark ^, which is taken out."""
        self.assertEqual(marked.count("^"), 1, marked)
        self.assert_row(marked.replace("^", ""), marked.index("^") + 1, head)


class Reading(Case):
    def test_an_ordinary_text(self):
        net = read_net(HEAD + RULES + "guard q over ab.0 3/6 delay 2 opens g ab.1 ab.0\n")
        self.assertEqual(net, (("a", "b"), (("ab", "a", "b", 10),), (("g", "a", 3),),
                               (("q", ("over", ("ab", 0), (1, 2), False), 2, (("ab", 0), ("ab", 1), ("g", 0))),),
                               ((1, 10), 1, 2, 10)))
        self.assertIs(net[3][0][1][3], False)

    def test_all_kinds_of_rows(self):
        looks = {"over ab.1 12": ("over", ("ab", 1), (12, 1), False), "over g 1/3 forward": ("over", ("g", 0), (1, 3), True),
                 "reach ab.0 2/4": ("reach", ("ab", 0), (1, 2)), "difference ab 1/1000": ("difference", "ab", (1, 1000)),
                 "difference a 1000/2": ("difference", "a", (500, 1)), "behind g": ("behind", ("g", 0)),
                 "behind ab.1": ("behind", ("ab", 1))}
        for text, told in looks.items():
            net = self.assert_row(f"guard q {text} delay 0 opens g")
            self.assertEqual(net[3], (("q", told, 0, (("g", 0),)),))
            for one in told:
                self.assertIs(type(one), type(told[told.index(one)]))

    def test_blanks_comments_and_empty_lines(self):
        plain = HEAD + RULES + "guard q behind ab.0 delay 1 opens ab.1 g"
        net = read_net(plain)
        self.assertEqual(read_net("\n \n#\n  # a\n" + plain + "\n\n"), net)
        self.assertEqual(read_net(plain.replace(" ", "   ")), net)
        self.assertEqual(read_net("\n".join("  " + row + "  " for row in plain.split("\n"))), net)
        self.assertEqual(read_net("\n".join(row + "#\u00e4 BUS\t\r" for row in plain.split("\n"))), net)
        self.assertEqual(read_net("\n".join(row + "  # bus c #" for row in plain.split("\n"))), net)

    def test_rows_in_other_orders(self):
        net = read_net(HEAD + RULES)
        self.assertEqual(read_net(RULES + HEAD), net)
        rows = (HEAD + RULES).strip().split("\n")
        self.assertEqual(read_net("\n".join([rows[4], rows[3], rows[6], rows[2], rows[5], rows[0], rows[1]])), net)
        self.assertEqual(read_net("bus b\nbus a\n" + "\n".join(rows[2:]))[0], ("b", "a"))
        more = "line z b a 1\nline c a b 2\nsource y b 1\nsource d b 2\n"
        net = read_net(more + HEAD + RULES + "guard r behind g delay 0 opens g\nguard q behind y delay 0 opens y\n")
        self.assertEqual([line[0] for line in net[1]], ["z", "c", "ab"])
        self.assertEqual([source[0] for source in net[2]], ["y", "d", "g"])
        self.assertEqual([guard[0] for guard in net[3]], ["r", "q"])

    def test_opens_in_any_order(self):
        wanted = (("ab", 0), ("ab", 1), ("g", 0))
        for opens in ("ab.0 ab.1 g", "g ab.1 ab.0", "ab.1 g ab.0"):
            self.assertEqual(self.assert_row(f"guard q behind g delay 0 opens {opens}")[3][0][3], wanted)

    def test_figures_in_names(self):
        text = "bus b1\nbus b10\nline l0 b1 b10 1\nsource s b1 1\n" + RULES + "guard q1 behind l0.1 delay 0 opens l0.0"
        self.assertEqual(read_net(text)[3][0][1], ("behind", ("l0", 1)))

    def test_numbers(self):
        self.assertEqual(self.assert_row("source h b 1000")[2][1], ("h", "b", 1000))
        self.assertEqual(self.assert_row("source h b 1")[2][1], ("h", "b", 1))
        self.assertIsNone(self.assert_row("source h b 0"))
        for number in ("1001", "9999", "00", "01", "0001", "12345", "10000", "000", "00000", "1" * 5000):
            self.assert_spot(f"source h b ^{number}")
            self.assert_spot(f"guard q difference ab ^{number} delay 0 opens g")
            self.assert_spot(f"guard q difference ab 1/^{number} delay 0 opens g")
            self.assert_spot(f"guard q difference ab 1 delay ^{number} opens g")
        for number in ("1001", "01", "12345"):
            self.assert_wrong(HEAD + f"breaker {number} 2", 5, 9)
            self.assert_wrong(HEAD + f"breaker 1 {number}", 5, 11)
            self.assert_wrong(HEAD + f"ticks {number}", 5, 7)
            self.assert_wrong(HEAD + f"error {number}", 5, 7)
            self.assert_wrong(HEAD + f"error 1/{number}", 5, 9)

    def test_fractions(self):
        for text, wanted in (("1", (1, 1)), ("1000", (1000, 1)), ("3/1", (3, 1)), ("2/4", (1, 2)), ("6/3", (2, 1)), ("1/1000", (1, 1000)),
                             ("1000/1000", (1, 1)), ("999/1000", (999, 1000))):
            self.assertEqual(self.assert_row(f"guard q difference ab {text} delay 0 opens g")[3][0][1][2], wanted)
        self.assertEqual(read_net(HEAD + "error 0/7\nbreaker 1 1\nticks 1")[4][0], (0, 1))
        self.assertEqual(read_net(HEAD + "error 0\nbreaker 1 1\nticks 1")[4][0], (0, 1))
        self.assertEqual(read_net(HEAD + "error 2/4\nbreaker 1 1\nticks 1")[4][0], (1, 2))

    def test_wrong_fractions(self):
        for text in ("3/^0", "3/^00", "3/^01", "3/^1001", "3/^ 4", "3 ^/4", "3 ^/ 4", "3/^", "3/^  ", "^/4", "3/4^/5"):
            self.assert_wrong(HEAD + "error " + text.replace("^", ""), 5, 7 + text.index("^"))
        for text in ("3^.5", "3^x", "3/4^x", "3/^x", "^x/3", "^-3", "3/^-4", "3^:4", "^03/4", "3/^/4", "3^\\4", "^1001/3"):
            self.assert_spot(f"guard q difference ab {text} delay 0 opens g")
            self.assert_wrong(HEAD + "error " + text.replace("^", ""), 5, 7 + text.index("^"))
        self.assert_wrong(HEAD + "error 3/# 4", 5, 9)
        # An F of 0 reads well, but tells no net.
        self.assertIsNone(self.assert_row("guard q difference ab 0 delay 0 opens g"))
        self.assertIsNone(self.assert_row("guard q difference ab 0/3 delay 0 opens g"))


class Breakers(Case):
    def test_a_line_told_ahead(self):
        for at, row in enumerate(("guard q behind {} delay 0 opens g", "guard q over {} 1 delay 0 opens g",
                                  "guard q reach {} 1 delay 0 opens g", "guard q behind g delay 0 opens {}",
                                  "guard q behind g delay 0 opens g {}", "guard q behind g delay 0 opens {} g")):
            for end in ("0", "1"):
                self.assertIsNotNone(self.assert_row(row.format("ab." + end)), at)
            for spot in ("ab.^2", "ab.^", "ab.^x", "ab.^-", "ab.^.0", "ab.0^.1", "ab.0^x", "ab.1^A", "ab.0^0", "ab.0^/", "^ab"):
                marked = row.format(spot)
                if spot == "ab.^":
                    # Right behind it stands a blank, or the end.
                    self.assertIn(marked[marked.index("^") + 1:][:1], ("", " "))
                self.assert_spot(marked)

    def test_other_names(self):
        for row in ("guard q behind {} delay 0 opens g", "guard q behind g delay 0 opens {}"):
            # A source without an end is right; other names read well, but check_net takes none of them.
            self.assertIsNotNone(self.assert_row(row.format("g")))
            for name in ("a", "zz", "q"):
                self.assertIsNone(self.assert_row(row.format(name)))
            for name in ("g", "a", "zz", "q"):
                self.assert_spot(row.format(f"^{name}.0"))
                self.assert_spot(row.format(f"^{name}.1"))
                self.assert_spot(row.format(f"{name}^.2"))
                self.assert_spot(row.format(f"{name}^."))
                self.assert_spot(row.format(f"{name}^-"))
            for name in ("bus", "forward", "1ab", "abcdefghi", "0"):
                self.assert_spot(row.format(f"^{name}"))
                self.assert_spot(row.format(f"^{name}.0"))
            for name in ("A", ".0", "-", "\t", "_"):
                self.assert_spot(row.format(f"^{name}"))

    def test_a_line_told_only_behind(self):
        head = "bus a\nbus b\nsource g a 3\n"
        for end in (0, 1):
            row = f"guard q behind g delay 0 opens ^ab.{end}\nline ab a b 10"
            self.assert_spot(row, head)
            self.assert_spot(f"guard q behind ^ab.{end} delay 0 opens g\nline ab a b 10", head)
        # Without an end it reads as any other name does there: as (name, 0), which then is a breaker.
        net = read_net(head + "guard q behind g delay 0 opens ab\nline ab a b 10\n" + RULES)
        self.assertEqual(net[3][0][3], (("ab", 0),))

    def test_told_twice_in_opens(self):
        for opens in ("g g", "ab.0 g ab.0"):
            with self.assertRaises(BadNet):
                read_net(HEAD + RULES + f"guard q behind g delay 0 opens {opens}")

    def test_parts_have_no_ends(self):
        self.assert_spot("guard q difference ab^.0 1 delay 0 opens g")
        self.assert_spot("guard q difference a^.0 1 delay 0 opens g")
        self.assert_spot("guard q difference ^over 1 delay 0 opens g")
        self.assertIsNone(self.assert_row("guard q difference g 1 delay 0 opens g"))
        self.assertIsNone(self.assert_row("guard q difference zz 1 delay 0 opens g"))


class Wrong(Case):
    def test_no_string(self):
        for thing in strange_things() + [b"bus a", ["bus a"], Awkward(), HEAD.encode()]:
            if not isinstance(thing, str):
                self.assert_wrong(thing, 0, 0)

    def test_a_second_row(self):
        for row in ("error 1/10", "breaker 1 2", "ticks 10"):
            word = row.split()[0]
            self.assert_wrong(HEAD + RULES + row, 8, 1)
            self.assert_wrong(HEAD + RULES + "\n   " + row + " x", 9, 4)
            self.assert_wrong(HEAD + RULES + word, 8, 1)
            self.assert_wrong(HEAD + RULES + word + "/", 8, 1)

    def test_words_at_the_start(self):
        for row in ("^busx a", "^a", "^0", "^over", "^opens g", "^delay", "^1bus", "^buss", "^bu", "bus^", "^-", "^Bus a", "^.",
                    "^/", "^\tbus a", "^b\u00fcs c", "^bUs c", "bus^\ta", "bus^.a", "bus^A", "^\r", " ^\u00a0bus c"):
            self.assert_spot(row)
            self.assert_spot("   " + row)

    def test_lines_that_end_too_early(self):
        rows = ["bus c", "line cd a b 3", "source h a 3", "guard q over ab.0 1/2 forward delay 3 opens g",
                "guard q over ab.0 1/2 delay 3 opens g", "guard q reach ab.0 12 delay 3 opens g",
                "guard q difference ab 12 delay 3 opens g", "guard q behind ab.0 delay 3 opens g"]
        for row in rows:
            words = row.split()
            for many in range(1, len(words)):
                start = " ".join(words[:many])
                self.assert_row(start, len(start) + 1)
                self.assert_row(start + "   ", len(start) + 4)
                self.assert_row(start + "#", len(start) + 1)
                self.assert_row(start + "  # " + words[many], len(start) + 3)
                self.assert_row("  " + start + " #", len(start) + 4)
        for row in ("error", "breaker", "breaker 1", "ticks"):
            self.assert_wrong(HEAD + row, 5, len(row) + 1)
            self.assert_wrong(HEAD + row + "  \nbus c", 5, len(row) + 3)
            self.assert_wrong(HEAD + row + " #1", 5, len(row) + 2)

    def test_a_word_too_many(self):
        rows = ["bus c", "line cd a b 3", "source h a 3", "guard q behind ab.0 delay 3 opens g"]
        for row in rows[:3]:
            for word in ("x", "3", "bus", "-", ".0", "X", "\t"):
                self.assert_spot(f"{row} ^{word}")
                self.assert_spot(f" {row}   ^{word} x")
        self.assert_spot(f"{rows[3]} ^3")
        for row in ("error 1/10", "breaker 1 2", "ticks 10"):
            self.assert_wrong(HEAD + row + "  x", 5, len(row) + 3)
            self.assert_wrong(HEAD + row + " 1", 5, len(row) + 2)

    def test_other_words_than_must_stand_there(self):
        for row in ("guard q ^near ab.0 1 delay 0 opens g", "guard q ^delay 0 opens g", "guard q ^over1 ab.0 1 delay 0 opens g",
                    "guard q over ab.0 1 ^forwards delay 0 opens g", "guard q over ab.0 1 ^backward delay 0 opens g",
                    "guard q over ab.0 1 forward ^forward delay 0 opens g", "guard q over ab.0 1 forward ^opens g",
                    "guard q reach ab.0 1 ^forward delay 0 opens g", "guard q difference ab 1 ^forward delay 0 opens g",
                    "guard q behind ab.0 ^1 delay 0 opens g", "guard q behind ab.0 ^forward delay 0 opens g",
                    "guard q behind ab.0 ^delays 0 opens g", "guard q behind ab.0 delay ^x opens g",
                    "guard q behind ab.0 delay ^opens g", "guard q behind ab.0 delay 0 ^open g",
                    "guard q behind ab.0 delay 0 ^g", "guard q behind ab.0 delay 0 opens ^opens",
                    "guard q over ^1 1 delay 0 opens g", "guard q over ab.0 ^ab.0 delay 0 opens g",
                    "guard q over ab.0 ^forward delay 0 opens g", "line cd a b ^x", "line cd a b ^x1", "source h a ^forward"):
            self.assert_spot(row)

    def test_names_that_are_none(self):
        for name in WORDS + ["abcdefghi", "1a", "0", "12", "a23456789", "z" * 100]:
            for row in ("bus ^{}", "line ^{} a b 1", "line cd ^{} b 1", "line cd a ^{} 1", "source ^{} a 1", "source h ^{} 1",
                        "guard ^{} behind g delay 0 opens g", "guard q difference ^{} 1 delay 0 opens g",
                        "guard q behind ^{} delay 0 opens g", "guard q behind g delay 0 opens ^{}"):
                self.assert_spot(row.format(name))

    def test_signs_within_a_word_behind_it_and_in_its_place(self):
        for sign in "\tABZ_-+*,;:!?\"'()[]{}<>=@$&|~\\\r\x00\x0b\u00a0\u00e9\u2003\u0661\U0001f600./":
            self.assert_spot(f"bus c^{sign}")
            self.assert_spot(f"bus c^{sign}d")
            self.assert_spot(f"bus c ^{sign}")
            self.assert_spot(f"bus ^{sign}")
            self.assert_spot(f"bus ^{sign}c")
            self.assert_spot(f"bus^{sign} c")
            self.assert_spot(f"^{sign}")
            self.assert_spot(f"source h a 3^{sign}")
            self.assert_spot(f"source h a ^{sign}3")
            self.assert_spot(f"source h a 3^{sign}5")
            self.assert_spot(f"guard q behind g^{sign} delay 0 opens g")
            self.assert_spot(f"guard q behind g d^{sign}elay 0 opens g".replace("d^", "^d"))
            self.assert_spot(f"guard q behind g delay^{sign} 0 opens g")
            self.assert_spot(f"guard q behind ab.0^{sign} delay 0 opens g")

    def test_a_letter_right_behind_a_number(self):
        for row in ("source h a 3^x", "source h a 0^x", "source h a 1000^b", "guard q behind g delay 0^opens g",
                    "guard q difference ab 3^delay 0 opens g", "line cd a b 12^a3"):
            self.assert_spot(row)
        # The number itself is wrong ahead of the letter.
        for row in ("source h a ^01x", "source h a ^1001x", "source h a ^12345x"):
            self.assert_spot(row)
        self.assert_wrong(HEAD + "breaker 1x 2", 5, 10)
        self.assert_wrong(HEAD + "ticks 1/2", 5, 8)

    def test_the_first_of_several_wrong_things(self):
        self.assert_spot("line ^1 a.0 B 0001")
        self.assert_spot("line cd a^.0 B 0001")
        self.assert_spot("line cd a ^B 0001")
        self.assert_spot("line cd a b ^0001 x")
        self.assert_spot("guard q near ab.3".replace("near", "^near"))
        self.assert_wrong("bus A\nbuss\n\t\nbus a b", 1, 5)
        self.assert_wrong("bus a\nbuss\n\t\nbus a b", 2, 1)
        self.assert_wrong("bus a\n# no\n\t\nbus a b", 3, 1)
        self.assert_wrong("bus a\nbus a\nbus a b", 3, 7)
        self.assert_wrong("error 1/10\nbus\nerror", 2, 4)

    def test_rows_that_lack(self):
        rows = RULES.strip().split("\n")
        for left in range(3):
            some = "\n".join(row for at, row in enumerate(rows) if at != left)
            text = HEAD + some
            self.assert_wrong(text, 6, len(some.split("\n")[1]) + 1)
            self.assert_wrong(text + "  ", 6, len(some.split("\n")[1]) + 3)
            self.assert_wrong(text + "\n", 7, 1)
            self.assert_wrong(text + "\n\n   ", 8, 4)
            with self.assertRaises(BadText) as caught:
                read_net(text + "\n  # end")
            self.assertEqual(caught.exception.line, 7)
            self.assertIn(caught.exception.column, (3, 8))
        self.assert_wrong("", 1, 1)
        self.assert_wrong("\n", 2, 1)
        self.assert_wrong("bus a", 1, 6)
        self.assert_wrong(RULES.strip().split("\n")[0], 1, 11)

    def test_lacking_rows_are_told_behind_wrong_lines_and_ahead_of_bad_nets(self):
        self.assert_wrong("bus a\nbus a\nx", 3, 1)
        self.assert_wrong("bus a\nbus a", 2, 6)

    def test_texts_that_tell_no_net(self):
        heads = ["", "bus a\n", "bus a\nbus a\nsource g a 1\n", "bus a\nsource g b 1\n", "bus a\nsource g a 0\n",
                 "bus a\nbus b\nsource g a 1\nline l a a 1\n", "bus a\nbus b\nsource g a 1\nline l a b 0\n",
                 HEAD + "guard q behind g delay 21 opens g\n", HEAD + "guard g behind g delay 1 opens g\n",
                 HEAD + "guard q behind a delay 1 opens g\n", HEAD + "guard q difference g 1 delay 0 opens g\n",
                 HEAD + "guard q over g 0 delay 0 opens g\n"]
        for head in heads:
            with self.assertRaises(BadNet):
                read_net(head + RULES)
        for rules in ("error 1\nbreaker 1 2\nticks 3", "error 3/2\nbreaker 1 2\nticks 3", "error 0\nbreaker 2 1\nticks 3",
                      "error 0\nbreaker 0 1\nticks 3", "error 0\nbreaker 1 7\nticks 3", "error 0\nbreaker 1 2\nticks 0",
                      "error 0\nbreaker 1 2\nticks 41"):
            with self.assertRaises(BadNet):
                read_net(HEAD + rules)

    def test_another_blank_or_line_feed(self):
        self.assert_wrong("bus a\r\nbus b", 1, 6)
        self.assert_wrong("bus a\x0bbus b", 1, 6)
        self.assert_wrong("bus\u00a0a", 1, 4)
        self.assert_wrong("bus a\u2028bus b", 1, 6)


class Writing(unittest.TestCase):
    def assert_kept(self, net):
        check_net(net)
        text = net_text(net)
        self.assertIsInstance(text, str)
        self.assertEqual(read_net(text), net)
        self.assertEqual(net_text(net), text)

    def test_samples(self):
        for net in (EXAMPLE, KINDS, VILLAGE, (*KINDS[:3], (), KINDS[4]), (("a",), (), (("g", "a", 1),), (), KINDS[4])):
            self.assert_kept(net)

    def test_drawn_nets(self):
        draw = random.Random(6)
        for _ in range(300):
            self.assert_kept(net_of_all_kinds(draw))

    def test_bounds_of_numbers(self):
        for bound in ((1, 1), (1000, 1), (1, 1000), (999, 1000), (1000, 999)):
            for is_forward in (False, True):
                guards = (("q", ("over", ("g", 0), bound, is_forward), 20, (("g", 0),)),)
                self.assert_kept((*VILLAGE[:3], guards, ((999, 1000), 6, 6, 40)))


if __name__ == "__main__":
    unittest.main()
