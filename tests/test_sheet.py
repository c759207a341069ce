"""Lines of worksheets, and the texts of tables."""

import random
import unittest

from classtable.classes import classes
from classtable.cyclo import Cyclo, of_integer, root
from classtable.errors import Fault, NoText, Refused
from classtable.group import Group, cyclic, direct, from_permutations
from classtable.permutation import Permutation
from classtable.sheet import read_line, read_rows, table_text
from classtable.table import character_table
from tests.samples import ALL_KINDS, GROUPS, OTHER_FORMS

ONE = of_integer(1)
NAMES = {
    "two": cyclic(2), "sixty": cyclic(60), "sym": GROUPS["symmetric3"], "one": cyclic(1), "a": GROUPS["alternating5"],
    "abcdefgh": cyclic(5), "thirty": cyclic(30), "perms": cyclic(3)}
NOT_STRINGS = [value for value in OTHER_FORMS if not isinstance(value, str)] + [
    NAMES, {}, ["table two"], ("table two",), ("table", "two"), b"table two", Refused("line"), NoText(0)]


def outcome(line, names=NAMES):
    """What read_line returns, or its refusal as a pair."""
    try:
        return read_line(names, line)
    except NoText as fault:
        return ("text", fault.at)
    except Refused as fault:
        return ("refused", fault.reason)


class Lines(unittest.TestCase):
    def told(self, line, expected):
        self.assertEqual(outcome(line), expected, line)

    def not_told(self, *lines):
        for line in lines:
            self.assertEqual(outcome(line), ("text", 0), line)

    def test_each_word(self):
        group, _ = from_permutations((Permutation((1, 2, 0)), Permutation((1, 0, 2))))
        self.told("perms new ; 3 ; (0 1 2) ; (0 1)", ("perms", "new", group))
        self.told("cycle new ; 7", ("cycle", "new", cyclic(7)))
        self.told("pairs new ; two ; sym", ("pairs", "new", direct(cyclic(2), GROUPS["symmetric3"])))
        self.told("classes sym", ("classes", GROUPS["symmetric3"]))
        self.told("constants sym ; 2 ; 0", ("constants", GROUPS["symmetric3"], 2, 0))
        self.told("table two", ("table", cyclic(2)))
        self.told("normal a", ("normal", GROUPS["alternating5"]))
        self.told("parts sym ; 6 ; 0 ; -3", ("parts", GROUPS["symmetric3"], 6, 0, -3))
        self.told("parts one ; 5", ("parts", cyclic(1), 5))
        for line in ("perms new ; 3 ; ()", "pairs new ; two ; sym", "cycle new ; 7"):
            self.assertIsInstance(read_line(NAMES, line)[2], Group)

    def test_the_group_is_the_one_of_the_name(self):
        for word, rest in (("classes", ""), ("table", ""), ("normal", ""), ("constants", " ; 0 ; 0"), ("parts", " ; 1 ; 1")):
            self.assertIs(read_line(NAMES, f"{word} two{rest}")[1], NAMES["two"])

    def test_names_are_left_alone(self):
        names = {"two": cyclic(2)}
        for line in ("cycle new ; 7", "cycle two ; 7", "pairs two ; two ; two", "perms two ; 3 ; ()", "table x", "table two"):
            outcome(line, names)
            self.assertEqual(names, {"two": cyclic(2)})

    def test_empty(self):
        for line in ("", " ", "     ", " " * 2000, "#", "# table two", "#table", "   # words ; and ~ others", "#;", "#" * 2000):
            self.told(line, ("empty",))

    def test_spaces(self):
        words = (
            ("cycle", "new", "7"), ("pairs", "new", "two", "two"), ("constants", "sym", "2", "0"), ("classes", "sym"),
            ("parts", "sym", "6", "0", "-3"), ("perms", "new", "3", "(0 1 2)", "(0 1)"), ("table", "two"), ("normal", "two"))
        for word, *parts in words:
            expected = outcome(f"{word} {' ; '.join(parts)}")
            self.assertNotIn(expected[0], ("text", "refused"))
            for joint in (";", " ;", "; ", " ; ", "    ;       ", ";   "):
                for start in ("", " ", "     "):
                    for end in ("", " ", "      "):
                        for middle in (" ", "    "):
                            self.told(start + word + middle + joint.join(parts) + end, expected)

    def test_first_words(self):
        self.not_told(
            "perms", "cycle", "table", "table ", " table  ", "tables two", "Table two", "TABLE two", "two", "two two", "tabletwo",
            "table;two", "table ; two", "; table two", ";", " ; ", "cycle;new;7", "cycle ; new ; 7", "cyclenew ; 7", "tabl two",
            "table#two", "names", "class sym", "constant sym ; 0 ; 0", "part two ; 1 ; 1", "perm new ; 3 ; ()", "() # two",
            "empty", "empty two", "done", "-", "~", "q#", "x()", *"abcdefghijklmnopqrstuvwxyz")

    def test_numbers_of_parts(self):
        self.not_told(
            "cycle new", "cycle new ;", "cycle new ; 7 ;", "cycle new ; 7 ; 8", "cycle ; 7", "cycle 7", "cycle new 7",
            "pairs new", "pairs new ; two", "pairs new ; two ; ", "pairs new ; two ; two ; two", "pairs ; two ; two",
            "pairs new ; two ; two ;", "pairs new ; two ; two ; 1", "pairs new two ; two", "classes", "classes ;", "classes two ;",
            "classes two ; 1",
            "classes two two", "table two ;", "table two ; 1", "table two ; two", "table two two", "normal two ;", "normal two ; 0", "normal ;",
            "constants two", "constants two ; 1", "constants two ; 1 ;", "constants two ; 1 ; 1 ; 1", "constants two ; 1 ; 1 ;",
            "constants two ; ; 1", "constants two 1 ; 1", "parts two", "parts two ;", "parts one ;", "parts two ; 1 ;",
            "parts two ; ; 1", "parts two ; 1 1", "perms new", "perms new ;", "perms new ; 3", "perms new ; 3 3 ; ()")

    def test_names(self):
        for name in ("abcdefgh", "zzzzzzzz", "table", "cycle", *"abcdefghijklmnopqrstuvwxyz"):
            self.told(f"cycle {name} ; 3", ("cycle", name, cyclic(3)))
            self.told(f"pairs {name} ; a ; one", ("pairs", name, direct(NAMES["a"], cyclic(1))))
            self.told(f"perms {name} ; 1 ; ()", ("perms", name, cyclic(1)))
            self.told(f"table {name}", ("table", NAMES[name]) if name in NAMES else ("refused", "name"))
            self.told(f"perms n ; 3 ; {name}", ("text", 14))
        self.told("table abcdefgh", ("table", cyclic(5)))
        self.told("pairs new ; abcdefgh ; abcdefgh", ("pairs", "new", direct(cyclic(5), cyclic(5))))
        for name in ("", "abcdefghi", "zzzzzzzzz", "A", "Two", "two2", "2", "t-o", "t_o", "two.", "t o", "#two", "{", "`", "-"):
            self.not_told(
                f"cycle {name} ; 3", f"pairs {name} ; two ; two", f"pairs new ; {name} ; two", f"pairs new ; two ; {name}",
                f"perms {name} ; 3 ; ()", f"table {name}", f"normal {name}", f"classes {name}", f"constants {name} ; 0 ; 0",
                f"parts {name} ; 1 ; 1")

    def test_numbers(self):
        for digits in ("00", "01", "007", "-1", "+1", "1.0", "1 0", "", "x", "0x1", "1_0", "1e1", "1234567890", "1000000000",
                       "0000000001", "--1", "-", "1-", "(1)", "two"):
            self.not_told(
                f"cycle new ; {digits}", f"perms new ; {digits} ; ()", f"constants sixty ; {digits} ; 0",
                f"constants sixty ; 0 ; {digits}")
        for digits in ("-0", "00", "01", "-01", "+1", "--1", "- 1", "-", "", "1234567890", "-1234567890", "1-", "1/2", "E4:0,1"):
            self.not_told(f"parts two ; {digits} ; 1", f"parts two ; 1 ; {digits}", f"parts one ; {digits}")
        for digits in ("0", "1", "-1", "10", "-10", "999999999", "-999999999", "100000000"):
            self.told(f"parts one ; {digits}", ("parts", cyclic(1), int(digits)))
        for digits in ("0", "13", "100", "999999999"):
            self.told(f"perms new ; {digits} ; ()", ("refused", "points"))
        self.told("cycle new ; 999999999", ("refused", "order"))
        self.told("constants sixty ; 59 ; 999999999", ("refused", "class"))
        self.told("constants sixty ; 59 ; 10", ("constants", cyclic(60), 59, 10))

    def test_digits_of_other_scripts(self):
        for digit in ("\u0663", "\u00b2", "\uff13", "\u096a", "\u2460"):
            self.not_told(f"cycle new ; {digit}", f"parts one ; {digit}", f"constants sym ; 0 ; {digit}", f"perms n ; {digit} ; ()")

    def test_lengths(self):
        self.told("table two" + " " * 1991, ("table", cyclic(2)))
        self.told(" " * 1991 + "table two", ("table", cyclic(2)))
        self.told("cycle new ;" + " " * 1988 + "7", ("cycle", "new", cyclic(7)))
        self.told("#" + "x" * 1999, ("empty",))
        self.not_told("table two" + " " * 1992, " " * 2001, "#" + "x" * 2000, "cycle new ;" + " " * 1989 + "7", " " * 10 ** 5)
        self.told("parts two" + " ; 1" * 497, ("refused", "class"))
        self.not_told("parts two" + " ; 1" * 498)

    def test_characters(self):
        allowed = {chr(k) for k in range(32, 127)} - {"%"}
        for c in [chr(k) for k in range(300)] + ["\u2028", "\u2029", "\u3000", "\ufeff", "\ud800", "\U0001f600"]:
            for line in (c, f"#{c}", f"# {c} ", f"table two{c}", f"{c}table two", f"perms new ; 3 ; ({c})", f"table{c}two"):
                if c not in allowed:
                    self.not_told(line)
            if c in allowed:
                self.told(f"#{c}", ("empty",))
                self.told(f" # {c} {c}", ("empty",))
                # A space moves the place of the empty permutation behind it.
                self.told(f"perms n ; 3 ;{c}", ("text", 14 if c == " " else 13))

    def test_no_strings(self):
        for value in NOT_STRINGS:
            self.not_told(value)


class Permutations(unittest.TestCase):
    def told(self, line, expected):
        self.assertEqual(outcome(line), expected, line)

    def test_one_to_four(self):
        texts = ["(0 1)", "(2 3)", "(4 5)", "(6 7)"]
        for many in range(1, 5):
            word, name, group = read_line(NAMES, "perms new ; 8 ; " + " ; ".join(texts[:many]))
            self.assertEqual((word, name, len(group)), ("perms", "new", 2 ** many))
        self.told("perms new ; 8 ; " + " ; ".join(texts + ["()"]), ("text", 0))
        self.told("perms new ; 8 ; () ; () ; () ; () ;", ("text", 0))
        self.told("perms new ; 99 ; x ; () ; () ; () ; ()", ("text", 0))
        self.told("perms new ; 8", ("text", 0))

    def test_all_points(self):
        for m in range(1, 13):
            cycle = f"({' '.join(str(k) for k in range(m))})" if m > 1 else "()"
            word, name, group = read_line(NAMES, f"perms new ; {m} ; {cycle}")
            self.assertEqual(len(group), m)
            self.told(f"perms new ; {m} ; (0 {m})", ("text", 15 + len(str(m))))
        self.told("perms new ; 12 ; (0 11)(1 10)", ("perms", "new", cyclic(2)))

    def test_the_group(self):
        generators = (Permutation((1, 0, 3, 2)), Permutation((1, 2, 0, 3)))
        group, _ = from_permutations(generators)
        self.told("perms new ; 4 ; (0 1)(2 3) ; (0 1 2)", ("perms", "new", group))

    def test_no_permutations(self):
        for text in ("", "(", ")", "x", "(0)", "(0 1", "0 1", "(0  1)", "( 0 1)", "(0 1 )", "(0 1) (2 3)", "(1 0)", "(0 3)", "(0,1)",
                     "(0 1)(1 2)", "(0 1)()", "()()", "(0 01)", "(0 -1)", "(-1 0)", "(0 1)x", "identity", "(0 1 0)", "[0 1]", "#"):
            self.told(f"perms n ; 3 ; {text}", ("text", 14))
            self.told(f"perms n;3;{text}", ("text", 10))
            self.told(f"   perms   n   ;   3   ;   {text}", ("text", 27))
            self.told(f"perms n ; 3 ; {text} ; (0 1)", ("text", 14 if text else 15))
            self.told(f"perms n ; 3 ; {text};(0 1)", ("text", 14))
            self.told(f"perms n ; 3 ; (0 1);{text}", ("text", 20))
            self.told(f"perms n ; 3 ; (0 1)  ;  {text}  ", ("text", 24 if text else 26))
            self.told(f"perms n ; 3 ; () ; () ; () ; {text}", ("text", 29))

    def test_the_first_of_several(self):
        self.told("perms n ; 3 ; () ; (0 3) ; x", ("text", 19))
        self.told("perms n ; 3 ; x ; (0 3) ; ()", ("text", 14))
        self.told("perms n ; 3 ; () ; (0 1) ; ;  ", ("text", 27))
        self.told("perms n ; 3 ; () ;; ()", ("text", 19 - 1))
        self.told("perms n ; 3 ;   ; x", ("text", 16))

    def test_empty_ones(self):
        self.told("perms n ; 3 ;", ("text", 13))
        self.told("perms n ; 3 ; ", ("text", 14))
        self.told("perms n ; 3 ;     ", ("text", 18))
        self.told("perms n ; 3 ;;", ("text", 13))
        self.told("perms n ; 3 ; () ;", ("text", 18))
        self.told("  perms n ; 3 ; () ;   ", ("text", 23))


class TheOrderOfRefusals(unittest.TestCase):
    def refused(self, line, reason):
        self.assertEqual(outcome(line), ("refused", reason), line)

    def text(self, line, at=0):
        self.assertEqual(outcome(line), ("text", at), line)

    def test_characters_before_the_rest(self):
        self.text("perms new ; 3 ; %")
        self.text("perms new ; 99 ; \t")
        self.text("table x\n")
        self.text("cycle new ; 61%")
        self.text("constants sym ; 7 ; 7" + " " * 2000)

    def test_form_before_names(self):
        self.text("table x ;")
        self.text("constants x ; 01 ; 0")
        self.text("constants x ; 0")
        self.text("parts x ; -0")
        self.text("parts x ;")
        self.text("pairs new ; x ; Y")
        self.text("pairs New ; x ; x")
        self.text("pairs new ; x")

    def test_form_before_points(self):
        self.text("perms New ; 13 ; ()")
        self.text("perms new ; 013 ; ()")
        self.text("perms new ; 13")

    def test_names(self):
        for line in ("classes x", "table x", "normal x", "constants x ; 0 ; 0", "parts x ; 1", "pairs new ; x ; two",
                     "pairs new ; two ; x", "pairs x ; x ; x", "pairs new ; new ; two", "table twos", "table tw"):
            self.refused(line, "name")
        self.assertEqual(outcome("table two", {}), ("refused", "name"))

    def test_names_before_orders(self):
        self.refused("pairs new ; sixty ; x", "name")
        self.refused("pairs new ; x ; sixty", "name")

    def test_names_before_classes(self):
        self.refused("constants x ; 999 ; 0", "name")
        self.refused("parts x ; 1 ; 2 ; 3 ; 4", "name")

    def test_points_before_permutations(self):
        for m in ("0", "13", "14", "999999999"):
            self.refused(f"perms new ; {m} ; x", "points")
            self.refused(f"perms new ; {m} ;", "points")
            self.refused(f"perms new ; {m} ; () ; ", "points")
            self.refused(f"perms new ; {m} ; ()", "points")

    def test_permutations_before_orders(self):
        self.text("perms n ; 5 ; (0 1 2 3 4) ; (0 1) ; (0 5)", 36)
        self.text("perms n ; 5 ; (0 5) ; (0 1 2 3 4) ; (0 1)", 14)
        self.text("perms n ; 5 ; (0 1 2 3 4) ; (0 1) ; ", 36)

    def test_orders(self):
        self.refused("cycle new ; 0", "order")
        self.refused("cycle new ; 61", "order")
        self.assertEqual(outcome("cycle new ; 1"), ("cycle", "new", cyclic(1)))
        self.assertEqual(outcome("cycle new ; 60"), ("cycle", "new", cyclic(60)))
        self.refused("pairs new ; sixty ; two", "order")
        self.refused("pairs new ; two ; sixty", "order")
        self.refused("pairs new ; sym ; a", "order")
        self.assertEqual(outcome("pairs new ; thirty ; two"), ("pairs", "new", direct(cyclic(30), cyclic(2))))
        self.assertEqual(outcome("pairs new ; one ; sixty"), ("pairs", "new", cyclic(60)))
        self.refused("perms new ; 5 ; (0 1 2 3 4) ; (0 1)", "order")
        self.refused("perms new ; 12 ; (0 1 2 3 4 5 6 7 8 9 10 11) ; (0 1)", "order")
        self.assertEqual(len(outcome("perms new ; 5 ; (0 1 2 3 4) ; (0 1 2)")[2]), 60)
        self.assertEqual(len(outcome("perms new ; 12 ; (0 1 2)(3 4 5 6)(7 8 9 10 11)")[2]), 60)

    def test_classes(self):
        for name, group in NAMES.items():
            many = len(classes(group))
            for i, j in ((0, many), (many, 0), (many, many), (many - 1, many), (0, many + 1), (10 ** 8, 0), (0, 10 ** 9 - 1)):
                self.refused(f"constants {name} ; {i} ; {j}", "class")
            self.assertEqual(outcome(f"constants {name} ; {many - 1} ; 0"), ("constants", group, many - 1, 0))
            for more in (many - 1, many + 1, many + 2):
                if more > 0:
                    self.refused(f"parts {name}" + " ; 1" * more, "class")
            self.assertEqual(outcome(f"parts {name}" + " ; 1" * many), ("parts", group) + (1,) * many)

    def test_all_are_faults(self):
        for line in ("table x", "%", "cycle a ; 0", "constants two ; 2 ; 0", "perms a ; 13 ; ()"):
            self.assertRaises(Fault, read_line, NAMES, line)


class TableTexts(unittest.TestCase):
    def no_rows(self, value):
        with self.assertRaises(NoText, msg=repr(value)) as caught:
            read_rows(value)
        self.assertEqual(caught.exception.at, 0)

    def test_tables(self):
        for name, group in {**ALL_KINDS, "alternating5": GROUPS["alternating5"], "sixty": cyclic(60)}.items():
            rows = character_table(group).rows
            text = table_text(rows)
            self.assertEqual(text, " | ".join(", ".join(str(x) for x in row) for row in rows))
            self.assertEqual(read_rows(text), rows, name)
        self.assertEqual(table_text(character_table(cyclic(2)).rows), "1, 1 | 1, -1")
        self.assertEqual(table_text(character_table(cyclic(3)).rows), "1, 1, 1 | 1, E3:-1,-1, E3:0,1 | 1, E3:0,1, E3:-1,-1")

    def test_others(self):
        half = Cyclo(5, (0, -7, 10 ** 60), 2)
        for rows in ((), ((ONE,),), ((ONE,), (ONE, half)), ((half, half, half),), ((), ()), ((ONE,), ()), ((), (ONE,)), ((), (), ()),
                     ((ONE,), (), (half, ONE), ()), ((of_integer(-3), Cyclo(1, (1,), 3), root(4999)),)):
            told = read_rows(table_text(rows))
            self.assertEqual(told, rows)
            self.assertIsInstance(told, tuple)
            self.assertTrue(all(isinstance(row, tuple) for row in told))
        self.assertEqual((table_text(()), read_rows("")), ("", ()))
        self.assertEqual((table_text(((), ())), read_rows(" | ")), (" | ", ((), ())))
        self.assertEqual(table_text(((ONE,), (), (ONE, ONE))), "1 |  | 1, 1")

    def test_drawn(self):
        draw = random.Random(5)
        for _ in range(200):
            rows = tuple(
                tuple(Cyclo(draw.randint(1, 12), [draw.randint(-3, 3) for _ in range(5)], draw.randint(1, 4))
                      for _ in range(draw.randint(0, 4)))
                for _ in range(draw.choice((0, 2, 3, 4))))
            self.assertEqual(read_rows(table_text(rows)), rows)
            text = table_text(rows)
            for at in range(len(text)):
                # A text with one character more or less is that of other rows, or of none.
                for other in (text[:at] + text[at + 1:], text[:at] + draw.choice(" ,|1-E:/") + text[at:]):
                    try:
                        self.assertEqual(table_text(read_rows(other)), other)
                    except NoText as fault:
                        self.assertEqual(fault.at, 0)

    def test_other_spaces(self):
        for text in (" ", "  ", " 1", "1 ", "1,1", "1 , 1", "1,  1", "1, 1|1, 1", "1, 1 |1, 1", "1, 1| 1, 1", "1, 1  | 1, 1", "|",
                     "1, 1 |  1, 1", "1, 1 | 1, 1 ", " 1, 1 | 1, 1", "1, 1\n| 1, 1", "1,\t1", "1 |", "| 1", " |", "| ", "1 | |1",
                     "E4: 0,1", "E4:0, 1", "1 / 2", "- 1", " |  ", "1\n", "\n"):
            self.no_rows(text)

    def test_empty_values(self):
        for text in (", ", "1, ", ", 1", "1, , 1", "1, 1 | 1, ", "1, 1 | , 1", ",", "1,", ",1", " | , ", "1, 1, "):
            self.no_rows(text)

    def test_numbers_in_other_forms(self):
        for text in ("01", "-0", "+1", "2/2", "1/1", "0/2", "1/-2", "E1:1", "E2:-1", "E2:1", "E3:1", "E3:1,0", "E6:0,1", "E4:0,2/2",
                     "E4:0,1/1", "e4:0,1", "E4:0,1,0", "E4", "E4:", "x", "None", "1.0", "E5001:0,1", "E0:1", "1" + "0" * 900,
                     "E4:0", "E4:1,1/0", "\u0663", "%"):
            self.no_rows(text)
            self.no_rows("1, " + text)
            self.no_rows("1 | 1, " + text + " | 1")

    def test_no_strings(self):
        for value in NOT_STRINGS:
            self.no_rows(value)


if __name__ == "__main__":
    unittest.main()
