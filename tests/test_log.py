"""Written forms of logs, and the first wrong entry."""

import random
import unittest

from classtable.console import Console
from classtable.cyclo import of_integer
from classtable.errors import Malformed, NoText
from classtable.group import cyclic
from classtable.log import first_wrong, read_log, write_log
from classtable.replies import Reply
from tests.samples import OTHER_FORMS

DONE = Reply("done")
ENTRIES = [
    ("", DONE), ("   ", DONE), ("# words", DONE), ("cycle two ; 2", Reply("group", "order 2")),
    ("table two", Reply("table", "1, 1 | 1, -1")), ("table x", Reply("error", "refused name")),
    ("> table two", Reply("error", "text 0")), ("= done ", Reply("a", "= done ")), ("  two spaces  ", Reply("abcdefghijkl", "  two  ")),
    (">", Reply("z", ">")), ("=", Reply("z", "=")), ("> ", Reply("z", " ")), ("", Reply("z", "> ")), ("\t\r\x0b\x0c", Reply("z", "\r")),
    ("\u2028\x85\x1c", Reply("z", "\u2029\x1d")), ("100%", Reply("z", "%")), ("x" * 5000, Reply("z", "y" * 5000)), ("", Reply("z", "a b c"))]


class Written(unittest.TestCase):
    def test_form(self):
        self.assertEqual(write_log([]), "")
        self.assertEqual(write_log([("", DONE)]), "> \n= done \n")
        self.assertEqual(write_log([("cycle two ; 2", Reply("group", "order 2"))]), "> cycle two ; 2\n= group order 2\n")
        self.assertEqual(
            write_log([("  # ", DONE), ("table x", Reply("error", "refused name"))]), ">   # \n= done \n> table x\n= error refused name\n")

    def test_back_and_forth(self):
        for many in range(len(ENTRIES) + 1):
            for entries in (ENTRIES[:many], ENTRIES[many:], ENTRIES[many:] + ENTRIES[:many], [ENTRIES[many - 1]] * 2):
                text = write_log(entries)
                self.assertEqual(text, "".join(f"> {line}\n= {reply.kind} {reply.text}\n" for line, reply in entries))
                told = read_log(text)
                self.assertIsInstance(told, list)
                self.assertEqual(told, entries)
                self.assertTrue(all(isinstance(entry, tuple) and len(entry) == 2 for entry in told))
                self.assertEqual(write_log(told), text)

    def test_entries_are_left_alone(self):
        entries = list(ENTRIES)
        write_log(entries)
        self.assertEqual(entries, ENTRIES)

    def test_malformed(self):
        items = [["", DONE], ("", DONE, DONE), ("",), (DONE, ""), (DONE, DONE), ("", ""), ("", "done"), ("", ("done", "")), (None, DONE),
                 (0, DONE), (True, DONE), (["x"], DONE), (("",), DONE), (b"", DONE), ("\n", DONE), ("table two\n", DONE), ("a\nb", DONE),
                 ("\n# x", DONE), DONE, Console(), {}, ((), ()), ("", None), ("", of_integer(1)), ("", [DONE])]
        items += [("", Reply(kind)) for kind in (
            "", "abcdefghijklm", "Done", "done ", " done", "do ne", "done1", "1", "do-ne", "don\u00e9", "\u00e9", "\u0430", "\u00aa", "\n",
            "done\n", "DONE", "_", "\u00df", None, 0, True, ["done"], ("done",), b"done", DONE)]
        items += [("", Reply("done", text)) for text in (
            "\n", "a\nb", "\nx", "x\n", None, 0, 1, False, [""], (), ("x",), b"", of_integer(1), DONE)]
        for item in items + [value for value in OTHER_FORMS]:
            for entries in ([item], ENTRIES + [item], [item] + ENTRIES, ENTRIES[:3] + [item] + ENTRIES[3:]):
                self.assertRaises(Malformed, write_log, entries)


class Read(unittest.TestCase):
    def no_log(self, text, at):
        with self.assertRaises(NoText, msg=repr(text)) as caught:
            read_log(text)
        self.assertEqual(caught.exception.at, at, text)

    def test_empty(self):
        self.assertEqual(read_log(""), [])

    def test_no_strings(self):
        for value in OTHER_FORMS + ([], [""], ["> ", "= done "], b"> \n= done \n", ENTRIES, DONE, Console()):
            if not isinstance(value, str):
                self.no_log(value, 0)

    def test_each_spoilt_line(self):
        lines = write_log(ENTRIES[:9]).split("\n")[:-1]
        first = ("", ">", ">x", " > x", "x", "= done ", ">> x", "<", "# x", "=", "\t> x", "\u2028> x")
        second = ("", "=", "= ", "= done", "=done ", "= Done ", "=  done ", " = done ", "= 1 x", "= abcdefghijklm x", "> x", "== done ",
                  "= do1 x", "=\tdone ", "= done\t", "= don\u00e9 x", "=  x", "= done\u00a0x", "x", "= -")
        for at in range(len(lines)):
            for wrong in first if at % 2 == 0 else second:
                spoilt = lines[:at] + [wrong] + lines[at + 1:]
                self.no_log("\n".join(spoilt) + "\n", at)
                # The first one counts, whatever stands behind it.
                self.no_log("\n".join(spoilt + ["x"]) + "\n", at)
                self.no_log("\n".join(spoilt), at)
                self.no_log("\n".join(spoilt + [lines[0]]) + "\n", at)

    def test_lines_left_out(self):
        lines = write_log(ENTRIES[:6]).split("\n")[:-1]
        for at in range(len(lines) - 1):
            self.no_log("\n".join(lines[:at] + lines[at + 1:]) + "\n", at)
            self.no_log("\n".join(lines[:at + 1] + lines[at:]) + "\n", at + 1)

    def test_ends(self):
        lines = write_log(ENTRIES[:5]).split("\n")[:-1]
        for many in range(1, len(lines) + 1):
            whole = "\n".join(lines[:many])
            if many % 2 == 1:
                self.no_log(whole + "\n", many)
            else:
                self.assertEqual(read_log(whole + "\n"), ENTRIES[:many // 2])
            self.no_log(whole, many - 1)
            self.no_log(whole + "\n>", many)
            self.no_log(whole + "\n> x", many)
            self.no_log(whole + "\n= done ", many)
            self.no_log(whole + "\n ", many)
        for text in ("x", ">", "> ", "> x", " ", "= done "):
            self.no_log(text, 0)
        self.no_log("\n", 0)
        self.no_log("> x\n", 1)
        self.no_log("> x\n\n", 1)
        self.no_log("> x\n= done \n\n", 2)
        self.no_log("> x\r\n= done\r\n", 1)

    def test_drawn(self):
        draw = random.Random(3)
        text = write_log(ENTRIES[:9])
        for _ in range(3000):
            at = draw.randrange(len(text) + 1)
            other = text[:at] + draw.choice(("\n", " ", ">", "=", "x", "")) + text[at + draw.choice((0, 1, 3)):]
            try:
                self.assertEqual(write_log(read_log(other)), other)
            except NoText as fault:
                self.assertLessEqual(0, fault.at)
                self.assertLessEqual(fault.at, other.count("\n"))


class FirstWrong(unittest.TestCase):
    def test_right_ones(self):
        console = Console()
        for line in ("cycle a ; 2", "table a", "pairs b ; a ; a", "normal b", "# x", "perms a ; 3 ; (0 1 2) ; (0 1)", "table a", "x",
                     "classes a", "cycle a ; 99", "parts a ; 1 ; 0 ; 1", "constants b ; 1 ; 1", "table c", None, "\n", 7):
            console.enter(line)
        entries = list(console)
        self.assertEqual(first_wrong(entries), -1)
        self.assertEqual(first_wrong([]), -1)
        for at, (line, reply) in enumerate(entries):
            for wrong in ((line, Reply(reply.kind, reply.text + "x")), (line, Reply("x", reply.text)), [line, reply], (line,), None, line):
                self.assertEqual(first_wrong(entries[:at] + [wrong] + entries[at + 1:]), at)
                self.assertEqual(first_wrong(entries[:at] + [wrong, wrong]), at)

    def test_definitions(self):
        def order(n):
            return Reply("group", f"order {n}")

        no_name = Reply("error", "refused name")
        two, three = Reply("table", "1, 1 | 1, -1"), Reply("classes", "1:1 3:1 3:1")
        self.assertEqual(first_wrong([("table a", two)]), 0)
        self.assertEqual(first_wrong([("table a", no_name)]), -1)
        self.assertEqual(first_wrong([("cycle a ; 2", order(2)), ("table a", two)]), -1)
        self.assertEqual(first_wrong([("cycle a ; 2", order(2)), ("table a", no_name)]), 1)
        self.assertEqual(first_wrong([("cycle b ; 2", order(2)), ("table a", two)]), 1)
        self.assertEqual(first_wrong([("table a", no_name), ("cycle a ; 2", order(2)), ("table a", two)]), -1)
        # A definition replaces an earlier one.
        both = [("cycle a ; 2", order(2)), ("cycle a ; 3", order(3))]
        self.assertEqual(first_wrong(both + [("classes a", three)]), -1)
        self.assertEqual(first_wrong(both + [("table a", two)]), 2)
        self.assertEqual(first_wrong(both[::-1] + [("table a", two)]), -1)
        self.assertEqual(first_wrong(both[::-1] + [("classes a", three)]), 2)
        # One with an error replies so, and changes nothing.
        error = [("cycle a ; 61", Reply("error", "refused order"))]
        self.assertEqual(first_wrong(both[:1] + error + [("table a", two)]), -1)
        self.assertEqual(first_wrong(error + [("table a", no_name)]), -1)
        self.assertEqual(first_wrong([("cycle a ; 61", order(61))]), 0)
        # One by another name is made of it.
        made = both[:1] + [("pairs a ; a ; a", order(4)), ("pairs a ; a ; a", order(16))]
        self.assertEqual(first_wrong(made), -1)
        self.assertEqual(first_wrong(made + [("pairs a ; a ; a", Reply("error", "refused order"))]), -1)
        self.assertEqual(first_wrong(made[1:]), 0)
        perms = [("perms a ; 4 ; (0 1) ; (2 3)", order(4)), ("perms a ; 13 ; ()", Reply("error", "refused points"))]
        self.assertEqual(first_wrong(perms + [("classes a", Reply("classes", "1:1 2:1 2:1 2:1"))]), -1)

    def test_a_wrong_definition_is_the_first_wrong_entry(self):
        wrong = ("cycle a ; 2", Reply("group", "order 3"))
        self.assertEqual(first_wrong([wrong, ("table a", Reply("error", "refused name"))]), 0)
        self.assertEqual(first_wrong([wrong]), 0)

    def test_no_entries(self):
        for value in OTHER_FORMS + (DONE, Console(), {}, ["", DONE], ("", DONE, DONE), ("",), cyclic(2), ("", None), ([], []), (DONE, "")):
            self.assertEqual(first_wrong([value]), 0)
            self.assertEqual(first_wrong([("", DONE), value, ("x", DONE)]), 1)

    def test_values_that_are_no_lines(self):
        error = Reply("error", "text 0")
        for value in OTHER_FORMS + (DONE, Console(), ["cycle a ; 2"], ("cycle a ; 2",)):
            if not isinstance(value, str):
                self.assertEqual(first_wrong([(value, error), ("", DONE)]), -1)
                self.assertEqual(first_wrong([("", DONE), (value, DONE)]), 1)

    def test_the_list_is_left_alone(self):
        entries = [("cycle a ; 2", Reply("group", "order 2")), None]
        self.assertEqual(first_wrong(entries), 1)
        self.assertEqual(entries, [("cycle a ; 2", Reply("group", "order 2")), None])


if __name__ == "__main__":
    unittest.main()
