"""Consoles."""

import time
import unittest

from classtable.console import Console
from classtable.errors import Malformed, Refused
from classtable.group import cyclic, direct
from classtable.log import first_wrong, read_log
from classtable.replies import Reply, reply_to
from tests.samples import GROUPS

LINES = ("cycle two ; 2", "table two", "", "# words", "table x", "pairs four ; two ; two", "normal four", "cycle two ; 99",
         "perms s ; 3 ; (0 1 2) ; (0 1)", "parts s ; 3 ; 1 ; 0", "%", "constants s ; 1 ; 1", "classes two", "  table   s  ")


def entered(*lines, most=200):
    console = Console(most=most)
    for line in lines:
        console.enter(line)
    return console


class Consoles(unittest.TestCase):
    def test_example(self):
        console = Console()
        self.assertEqual(console.enter("cycle two ; 2").text, "order 2")
        self.assertEqual(console.enter("table two").text, "1, 1 | 1, -1")

    def test_entries(self):
        console = Console()
        self.assertEqual((len(console), list(console), console.names(), console.log()), (0, [], {}, ""))
        expected = []
        for line in LINES:
            names = console.names()
            reply = console.enter(line)
            self.assertIsInstance(reply, Reply)
            self.assertEqual(reply, reply_to(names, line))
            expected.append((line, reply))
            self.assertEqual(len(console), len(expected))
            self.assertEqual(list(console), expected)
            self.assertEqual([entry for entry in console], expected)
            self.assertTrue(all(isinstance(entry, tuple) for entry in console))
        self.assertEqual(first_wrong(list(console)), -1)

    def test_the_log_is_read_back(self):
        console = entered(*LINES)
        self.assertEqual(read_log(console.log()), list(console))
        self.assertTrue(console.log().startswith("> cycle two ; 2\n= group order 2\n> table two\n= table 1, 1 | 1, -1\n> \n= done \n"))
        self.assertEqual(console.log().count("\n"), 2 * len(LINES))

    def test_errors_are_entered(self):
        console = Console()
        for value, text in (("table x", "refused name"), ("%", "text 0"), ("cycle a ; 0", "refused order"), (None, "text 0"),
                            (["table"], "text 0"), ("a\nb", "text 0"), ("x" * 2001, "text 0")):
            reply = console.enter(value)
            self.assertEqual((reply.kind, reply.text), ("error", text))
            self.assertEqual(list(console)[-1], (value, reply))
        self.assertEqual((len(console), console.names()), (7, {}))
        self.assertEqual(first_wrong(list(console)), -1)

    def test_a_log_without_a_written_form(self):
        for line in ("a\nb", "\n", None, 5):
            console = entered("cycle two ; 2", line)
            self.assertEqual(len(console), 2)
            self.assertRaises(Malformed, console.log)

    def test_definitions(self):
        console = entered("cycle a ; 2")
        self.assertEqual(console.names(), {"a": cyclic(2)})
        console.enter("cycle b ; 3")
        self.assertEqual(console.names(), {"a": cyclic(2), "b": cyclic(3)})
        console.enter("pairs c ; a ; b")
        self.assertEqual(console.names()["c"], direct(cyclic(2), cyclic(3)))
        console.enter("pairs a ; a ; a")
        self.assertEqual(console.names(), {"a": GROUPS["four-group"], "b": cyclic(3), "c": direct(cyclic(2), cyclic(3))})
        console.enter("perms b ; 3 ; (0 1 2) ; (0 1)")
        self.assertEqual(console.names()["b"], GROUPS["symmetric3"])
        self.assertEqual(console.enter("table c").text, reply_to({"c": direct(cyclic(2), cyclic(3))}, "table c").text)

    def test_errors_leave_earlier_definitions(self):
        console = entered("cycle a ; 2", "cycle b ; 60")
        before = console.names()
        for line in ("cycle a ; 61", "cycle a ; 0", "pairs a ; b ; a", "pairs a ; a ; x", "perms a ; 13 ; ()", "perms a ; 3 ; (0 3)",
                     "perms a ; 5 ; (0 1 2 3 4) ; (0 1)", "cycle a ; 05", "cycle new ; 99", "cycle a ; 3 ;", "cycle a ; 3%"):
            self.assertEqual(console.enter(line).kind, "error")
            self.assertEqual(console.names(), before)
        self.assertEqual(console.enter("table a").text, "1, 1 | 1, -1")

    def test_other_lines_define_nothing(self):
        console = entered("cycle a ; 2")
        for line in ("table a", "normal a", "classes a", "constants a ; 0 ; 0", "parts a ; 1 ; 1", "", "# cycle b ; 3", "table b"):
            console.enter(line)
            self.assertEqual(console.names(), {"a": cyclic(2)})

    def test_names_are_a_new_dict(self):
        console = entered("cycle a ; 2")
        names = console.names()
        self.assertIsInstance(names, dict)
        names["b"] = cyclic(3)
        del names["a"]
        self.assertEqual(console.names(), {"a": cyclic(2)})
        self.assertIsNot(console.names(), console.names())
        self.assertEqual(console.enter("table b").text, "refused name")
        names = console.names()
        console.enter("cycle c ; 3")
        self.assertEqual(names, {"a": cyclic(2)})

    def test_consoles_are_apart(self):
        one, two = Console(), Console()
        one.enter("cycle a ; 2")
        self.assertEqual((len(two), two.names(), two.log()), (0, {}, ""))
        self.assertEqual(two.enter("table a").text, "refused name")
        self.assertEqual(len(one), 1)


class Most(unittest.TestCase):
    def refused(self, console, line):
        before = (len(console), list(console), console.names(), console.log())
        with self.assertRaises(Refused) as caught:
            console.enter(line)
        self.assertEqual(caught.exception.reason, "lines")
        self.assertEqual((len(console), list(console), console.names(), console.log()), before)

    def test_most(self):
        for most in (0, 1, 2, 5):
            console = Console(most=most)
            for k in range(most):
                console.enter(f"cycle {'abcde'[k]} ; {k + 1}")
            for line in ("cycle a ; 7", "cycle new ; 7", "", "table x", None, "%", "table a"):
                self.refused(console, line)

    def test_200(self):
        console = Console()
        for _ in range(200):
            self.assertEqual(console.enter("# x").kind, "done")
        self.refused(console, "# x")
        self.refused(console, "cycle a ; 2")
        self.assertEqual(len(console), 200)

    def test_errors_count(self):
        console = entered("x", "table x", "%", most=3)
        self.refused(console, "cycle a ; 2")

    def test_by_keyword_only(self):
        self.assertRaises(TypeError, Console, 5)


class Waiting(unittest.TestCase):
    def test_200_lines_with_groups_of_order_60(self):
        zeros = " ; 0" * 58
        block = (
            "cycle sixty ; 60", "cycle two ; 2", "cycle thirty ; 30", "pairs both ; two ; thirty", "cycle five ; 5",
            "perms a ; 5 ; (0 1 2 3 4) ; (0 1 2)", "perms dih ; 6 ; (0 1 2 3 4 5) ; (1 5)(2 4)", "pairs dih ; dih ; five",
            "table sixty", "normal sixty", f"parts sixty ; 60 ; -7{zeros}", "constants sixty ; 59 ; 58", "classes sixty",
            "table both", "normal both", f"parts both ; 3 ; 1{zeros}", "constants both ; 59 ; 1", "classes both", "table a", "normal a",
            "parts a ; 5 ; 1 ; -1 ; 0 ; 0", "table dih", "normal dih", "constants dih ; 4 ; 5", "table x")
        console = Console()
        slowest = 0
        start = time.monotonic()
        for line in block * 8:
            before = time.monotonic()
            console.enter(line)
            slowest = max(slowest, time.monotonic() - before)
        self.assertEqual(len(console), 200)
        self.assertLess(slowest, 15)
        self.assertLess(time.monotonic() - start, 300)
        self.assertEqual({reply.kind for _, reply in list(console)[:24]}, {"group", "table", "normal", "parts", "constants", "classes"})
        self.assertEqual(list(console)[24][1], Reply("error", "refused name"))
        self.assertEqual(read_log(console.log()), list(console))
        self.assertEqual(first_wrong(list(console)[:25]), -1)


if __name__ == "__main__":
    unittest.main()
