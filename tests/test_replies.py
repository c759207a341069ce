"""Replies to lines, and whether told entries are right."""

import time
import unittest
from unittest import mock

from classtable import replies
from classtable.classes import classes
from classtable.console import Console
from classtable.constants import constant
from classtable.cyclo import of_integer, root
from classtable.functions import ClassFunction
from classtable.group import cyclic, direct
from classtable.normal import normal_subgroups
from classtable.replies import Reply, is_right, reply_to
from classtable.table import character_table
from tests.samples import ALL_KINDS, GROUPS, OTHER_FORMS, PARTED

ONE = of_integer(1)
NAMES = {
    "one": cyclic(1), "two": cyclic(2), "three": cyclic(3), "four": GROUPS["four-group"], "cfour": cyclic(4), "sym": GROUPS["symmetric3"],
    "alt": GROUPS["alternating4"], "quat": GROUPS["quaternion"], "dih": GROUPS["dihedral4"], "a": GROUPS["alternating5"],
    "sixty": cyclic(60)}
ERRORS = {
    "table x": "refused name", "%": "text 0", "tables": "text 0", "x" * 2001: "text 0", "cycle n ; 0": "refused order",
    "cycle n ; 61": "refused order", "pairs n ; sixty ; two": "refused order", "pairs n ; two ; x": "refused name",
    "perms n ; 13 ; ()": "refused points", "perms n ; 3 ; (0 3)": "text 14", "perms n ; 3 ; () ;   ": "text 21",
    "perms n ; 5 ; (0 1 2 3 4) ; (0 1)": "refused order", "constants two ; 0 ; 2": "refused class", "parts two ; 1": "refused class",
    "parts sym ; 1 ; 1 ; 01": "text 0", "classes x": "refused name", "normal x": "refused name", "table two ;": "text 0",
    "table two\n": "text 0"}
NO_LINES = [value for value in OTHER_FORMS if not isinstance(value, str)] + [Reply("done"), Console(), ("table two",)]


def said(line, names=NAMES):
    reply = reply_to(names, line)
    return reply.kind, reply.text


class Replies(unittest.TestCase):
    def test_fields(self):
        self.assertEqual((Reply("done").kind, Reply("done").text), ("done", ""))
        self.assertEqual((Reply("group", "order 2").kind, Reply("group", text="order 2").text), ("group", "order 2"))

    def test_equality(self):
        self.assertIs(Reply("done") == Reply("done", ""), True)
        self.assertIs(Reply("done") != Reply("done", ""), False)
        for other in (Reply("done", " "), Reply("error"), Reply("Done"), Reply("", "done"), Reply(None), Reply("done", None)):
            self.assertIs(Reply("done") == other, False)
            self.assertIs(other == Reply("done"), False)
        for value in OTHER_FORMS + (("done", ""), "done", ["done", ""], Console(), NAMES):
            self.assertIs(Reply("done") == value, False)
            self.assertIs(value == Reply("done"), False)


class ReplyTo(unittest.TestCase):
    def test_groups(self):
        self.assertEqual(said("cycle new ; 7"), ("group", "order 7"))
        self.assertEqual(said("cycle new ; 60"), ("group", "order 60"))
        self.assertEqual(said("pairs new ; sym ; alt", {**NAMES, "alt": cyclic(10)}), ("group", "order 60"))
        self.assertEqual(said("pairs new ; one ; one"), ("group", "order 1"))
        self.assertEqual(said("perms new ; 4 ; (0 1 2 3) ; (0 1)"), ("group", "order 24"))
        self.assertEqual(said("perms new ; 1 ; ()"), ("group", "order 1"))

    def test_done(self):
        for line in ("", "    ", "# table two", "  #"):
            self.assertEqual(said(line), ("done", ""))

    def test_classes(self):
        self.assertEqual(said("classes one"), ("classes", "1:1"))
        self.assertEqual(said("classes sym"), ("classes", "1:1 2:3 3:2"))
        self.assertEqual(said("classes quat"), ("classes", "1:1 2:1 4:2 4:2 4:2"))
        self.assertEqual(said("classes a"), ("classes", "1:1 2:15 3:20 5:12 5:12"))

    def test_constants(self):
        self.assertEqual(said("constants sym ; 1 ; 1"), ("constants", "3 0 3"))
        self.assertEqual(said("constants sym ; 1 ; 2"), ("constants", "0 2 0"))
        for name, group in NAMES.items():
            many = len(classes(group))
            for i, j in ((0, 0), (many - 1, many // 2), (many // 2, many - 1), (many // 3, many // 3)):
                told = " ".join(str(constant(group, i, j, k)) for k in range(many))
                self.assertEqual(said(f"constants {name} ; {i} ; {j}"), ("constants", told))

    def test_tables(self):
        self.assertEqual(said("table one"), ("table", "1"))
        self.assertEqual(said("table two"), ("table", "1, 1 | 1, -1"))
        self.assertEqual(said("table sym"), ("table", "1, 1, 1 | 1, -1, 1 | 2, 0, -1"))
        self.assertEqual(said("table alt"), (
            "table", "1, 1, 1, 1 | 1, 1, E3:-1,-1, E3:0,1 | 1, 1, E3:0,1, E3:-1,-1 | 3, -1, 0, 0"))
        for group in PARTED.values():
            told = " | ".join(", ".join(str(x) for x in row) for row in character_table(group))
            self.assertEqual(said("table g", {"g": group}), ("table", told))

    def test_normal(self):
        self.assertEqual(said("normal one"), ("normal", "0"))
        self.assertEqual(said("normal sym"), ("normal", "0 0,2 0,1,2"))
        self.assertEqual(said("normal a"), ("normal", "0 0,1,2,3,4"))
        for group in PARTED.values():
            told = " ".join(",".join(str(i) for i in n) for n in normal_subgroups(character_table(group)))
            self.assertEqual(said("normal g", {"g": group}), ("normal", told))

    def test_parts(self):
        self.assertEqual(said("parts one ; -7"), ("parts", "-7"))
        self.assertEqual(said("parts sym ; 3 ; 1 ; 0"), ("parts", "1, 0, 1"))
        self.assertEqual(said("parts sym ; 0 ; 0 ; 1"), ("parts", "1/3, 1/3, -1/3"))
        self.assertEqual(said("parts three ; 0 ; 1 ; 0"), ("parts", "1/3, E3:0,1/3, E3:-1,-1/3"))
        for name, group in NAMES.items():
            values = [(7 * k + 3) % 11 - 5 for k in range(len(classes(group)))]
            f = ClassFunction(group, [of_integer(value) for value in values])
            told = ", ".join(str(m) for m in f.multiples(character_table(group)))
            self.assertEqual(said(f"parts {name} ; " + " ; ".join(str(value) for value in values)), ("parts", told))

    def test_errors(self):
        for line, text in ERRORS.items():
            self.assertEqual(said(line), ("error", text), line)
        for value in NO_LINES:
            self.assertEqual(said(value), ("error", "text 0"))

    def test_names_are_not_changed(self):
        names = dict(NAMES)
        for line in ("cycle new ; 7", "cycle two ; 7", "pairs sym ; two ; two", "perms two ; 3 ; (0 1)", "table two", "table x", ""):
            self.assertIsInstance(reply_to(names, line), Reply)
            self.assertEqual((names, list(names)), (NAMES, list(NAMES)))


class RightTables(unittest.TestCase):
    def right(self, group, text, kind="table"):
        told = is_right({"g": group}, ("table g", Reply(kind, text)))
        self.assertIsInstance(told, bool)
        return told

    def test_the_text_of_the_table(self):
        for name, group in {**ALL_KINDS, **NAMES}.items():
            reply = reply_to({"g": group}, "table g")
            for line in ("table g", "  table   g  "):
                self.assertIs(is_right({"g": group}, (line, reply)), True, name)
            self.assertIs(is_right({"h": group}, ("table g", reply)), False, name)

    def test_other_rows(self):
        for name, group in NAMES.items():
            if len(group) == 60:
                continue
            rows = [[str(x) for x in row] for row in character_table(group)]

            def text(found):
                return " | ".join(", ".join(row) for row in found)

            many = len(rows)
            self.assertTrue(self.right(group, text(rows)))
            others = [[], rows + [[]], rows[1:] + rows[:1], rows + rows]
            for k in range(many):
                others += [rows[:k] + rows[k + 1:], rows[:k + 1] + rows[k:], rows + [rows[k]]]
                for j in range(k):
                    exchanged = list(rows)
                    exchanged[j], exchanged[k] = rows[k], rows[j]
                    twice = list(rows)
                    twice[k] = rows[j]
                    columns = [list(row) for row in rows]
                    for row in columns:
                        row[j], row[k] = row[k], row[j]
                    others += [exchanged, twice, columns]
                    for value in ("0", "-1", "1", "2", "E3:0,1", "E4:0,1", "E5:0,1", "1/2", "E4999:1," + ",".join("0" * 10), "", "x", " 1"):
                        changed = [list(row) for row in rows]
                        changed[k][j] = value
                        others.append(changed)
                others += [[row[:k] + row[k + 1:] for row in rows], [row + row[k:k + 1] for row in rows]]
                others.append([row if j != k else [] for j, row in enumerate(rows)])
            for found in others:
                if found != rows and sorted(found) != sorted(rows):
                    self.assertFalse(self.right(group, text(found)), (name, found))
                elif found != rows:
                    self.assertFalse(self.right(group, text(found)), (name, "in another order"))

    def test_exchanged_rows(self):
        for text in ("1, -1 | 1, 1", "1, 1 | 1, 1", "1, 1", "1, -1", "1, 1 | -1, 1", "1, 1 | 1, -1 | 1, 1", "1, 1 | 1, 1 | 1, -1"):
            self.assertFalse(self.right(cyclic(2), text))
        self.assertTrue(self.right(GROUPS["symmetric3"], "1, 1, 1 | 1, -1, 1 | 2, 0, -1"))
        for text in ("1, -1, 1 | 1, 1, 1 | 2, 0, -1", "1, 1, 1 | 2, 0, -1 | 1, -1, 1", "2, 0, -1 | 1, -1, 1 | 1, 1, 1",
                     "1, 1, 1 | 1, 1, -1 | 2, -1, 0"):
            self.assertFalse(self.right(GROUPS["symmetric3"], text))
        self.assertTrue(self.right(cyclic(3), "1, 1, 1 | 1, E3:-1,-1, E3:0,1 | 1, E3:0,1, E3:-1,-1"))
        self.assertFalse(self.right(cyclic(3), "1, 1, 1 | 1, E3:0,1, E3:-1,-1 | 1, E3:-1,-1, E3:0,1"))

    def test_other_spellings(self):
        for text in ("1,1 | 1,-1", "1, 1|1, -1", " 1, 1 | 1, -1", "1, 1 | 1, -1 ", "1, 1 | 1, E2:-1", "1, 1 | 1, -1/1", "1, 1 | 1, -01",
                     "1,  1 | 1, -1", "01, 1 | 1, -1", "1, 1 | 1, -1 | ", "", " | ", "table", "order 2"):
            self.assertFalse(self.right(cyclic(2), text))

    def test_first_values_that_are_no_degrees(self):
        for text in ("0", "-1", "2", "1/2", "E4:0,1", "E3:-1,-1", "1, 1", "1" * 900, "-" + "1" * 900, "1" * 901, ""):
            self.assertFalse(self.right(cyclic(1), text), text)
        self.assertTrue(self.right(cyclic(1), "1"))
        for text in ("E4:0,1, 1 | 1, -1", "1, 1 | E4:0,1, -1", "1/2, 1 | 1, -1", "1, 1 | 0, 0", "1, 1 | -1, 1", " | 1, -1", "1, 1 | "):
            self.assertFalse(self.right(cyclic(2), text), text)

    def test_the_table_of_another_group(self):
        texts = {name: reply_to(NAMES, f"table {name}").text for name in NAMES}
        for one, group in NAMES.items():
            for two, text in texts.items():
                self.assertIs(self.right(group, text), text == texts[one], (one, two))
        self.assertNotEqual(texts["four"], texts["cfour"])
        # These two have the same table, although they are unlike.
        self.assertEqual(texts["quat"], texts["dih"])

    def test_another_kind(self):
        for kind in ("tables", "Table", "table ", "", "classes", "error", "done", "group", None, 0, True, ("table",), ["table"], ONE):
            self.assertFalse(self.right(cyclic(2), "1, 1 | 1, -1", kind))

    def test_texts_that_are_no_strings(self):
        for value in OTHER_FORMS + (character_table(cyclic(2)).rows, character_table(cyclic(2)), Reply("table", "1")):
            if not isinstance(value, str):
                self.assertFalse(self.right(cyclic(2), value))

    def test_no_rows_are_searched_for(self):
        names = dict(NAMES)
        texts = {name: reply_to(NAMES, f"table {name}").text for name in NAMES}
        with mock.patch.object(replies, "character_table", side_effect=AssertionError("searched")):
            for name, text in texts.items():
                self.assertIs(is_right(names, (f"table {name}", Reply("table", text))), True)
                self.assertIs(is_right(names, (f"table {name}", Reply("table", text + " | 1"))), False)
                self.assertIs(is_right(names, (f"table {name}", Reply("error", "refused name"))), False)
            self.assertIs(is_right(names, ("table x", Reply("error", "refused name"))), True)
            self.assertIs(is_right(names, ("table x", Reply("table", "1"))), False)


class RightOthers(unittest.TestCase):
    def test_the_reply_and_no_other(self):
        lines = [line for line in ERRORS] + [
            "", "  ", "# words", "cycle new ; 7", "cycle two ; 9", "pairs two ; two ; sym", "perms new ; 4 ; (0 1) ; (2 3)", "classes sym",
            "constants sym ; 1 ; 1", "normal sym", "parts sym ; 3 ; 1 ; 0", "parts three ; 0 ; 1 ; 0", "normal one", "classes one"]
        lines += NO_LINES
        for line in lines:
            reply = reply_to(NAMES, line)
            self.assertIs(is_right(NAMES, (line, reply)), True, line)
            self.assertIs(is_right(NAMES, (line, Reply(reply.kind, reply.text))), True)
            for other in (Reply(reply.kind, reply.text + " "), Reply(reply.kind, " " + reply.text), Reply(reply.kind, reply.text + "1"),
                          Reply(reply.kind + "s", reply.text), Reply("", reply.text), Reply("reply", reply.text),
                          Reply(reply.kind, reply.text[:-1] if reply.text else "1"), Reply(reply.text, reply.kind), Reply(None, reply.text),
                          Reply(reply.kind, None), Reply((reply.kind,), reply.text), Reply(reply.kind, [reply.text]), Reply(ONE, ONE)):
                self.assertIs(is_right(NAMES, (line, other)), False, (line, other.kind, other.text))

    def test_over_other_names(self):
        self.assertIs(is_right({}, ("normal sym", Reply("normal", "0 0,2 0,1,2"))), False)
        self.assertIs(is_right({}, ("normal sym", Reply("error", "refused name"))), True)
        self.assertIs(is_right({"sym": cyclic(2)}, ("normal sym", Reply("normal", "0 0,1"))), True)
        self.assertIs(is_right(NAMES, ("normal sym", Reply("error", "refused name"))), False)

    def test_no_entries(self):
        done = Reply("done")
        for value in OTHER_FORMS + (
                done, Console(), NAMES, NAMES["sym"], ("",), ("", done, done), ["", done], ("", "done"), ("", ("done", "")), (("", done),),
                ("", ["done", ""]), (done, ""), "", ("", None), ("", [done]), ["", [done]], ((), ()), ("table two", "1, 1 | 1, -1"),
                ("table two", ("table", "1, 1 | 1, -1")), ["table two", Reply("table", "1, 1 | 1, -1")], character_table(cyclic(2)),
                ClassFunction(cyclic(1), (ONE,)), (root(3), root(3)), (NAMES["two"], NAMES["two"]), (True, False), {"": done}):
            self.assertIs(is_right(NAMES, value), False, value)

    def test_values_that_are_no_lines(self):
        for value in NO_LINES:
            self.assertIs(is_right(NAMES, (value, Reply("error", "text 0"))), True)
            self.assertIs(is_right(NAMES, (value, Reply("done"))), False)
            self.assertIs(is_right(NAMES, (value, Reply("table", "1"))), False)

    def test_names_are_not_changed(self):
        names = dict(NAMES)
        for entry in (("cycle two ; 7", Reply("group", "order 7")), ("cycle new ; 7", Reply("group", "order 8")), ("x", Reply("done"))):
            is_right(names, entry)
            self.assertEqual(names, NAMES)

    def test_order_60(self):
        start = time.monotonic()
        for group in (GROUPS["alternating5"], cyclic(60), direct(cyclic(2), cyclic(30))):
            names = {"g": group}
            text = reply_to(names, "table g").text
            self.assertIs(is_right(names, ("table g", Reply("table", text))), True)
            for line in ("normal g", "classes g", "constants g ; 3 ; 4", "parts g" + " ; 5" * len(classes(group))):
                self.assertIs(is_right(names, (line, reply_to(names, line))), True)
        self.assertLess(time.monotonic() - start, 60)


if __name__ == "__main__":
    unittest.main()
