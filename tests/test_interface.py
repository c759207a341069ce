"""The names and arguments of the document's interface, and the files that define them."""

import importlib
import inspect
import unittest

FUNCTIONS = {
    "whole": {
        "is_integer": "(value)", "common": "(numbers)", "multiple": "(numbers)", "is_prime": "(n)",
        "prime_powers": "(n)", "divisors": "(n)", "coprime_count": "(n)", "root_floor": "(n)", "exact_root": "(n)",
        "power_modulo": "(a, k, p)", "inverse_modulo": "(a, p)", "generator_modulo": "(p)", "prime_above": "(e, bound)"},
    "cyclo": {
        "cyclotomic": "(e)", "root": "(e, k=1)", "of_integer": "(n)", "added": "(numbers)", "read_cyclo": "(text)"},
    "modular": {
        "reduced": "(rows, width, p)", "kernel": "(rows, width, p)", "coordinates": "(rows, vector, p)",
        "times": "(rows, vector, p)", "before": "(vector, rows, width, p)", "product": "(a, b, width, p)",
        "eigenspaces": "(rows, p)"},
    "permutation": {"identity": "(m)", "read_permutation": "(text, m)"},
    "group": {"cyclic": "(n)", "direct": "(a, b)", "from_permutations": "(generators)"},
    "classes": {
        "classes": "(group)", "class_numbers": "(group)", "class_of_power": "(group, i, k)",
        "inverse_classes": "(group)", "is_subgroup": "(group, elems)", "is_normal": "(group, elems)",
        "generated": "(group, elems)", "normal_closure": "(group, elems)", "centre": "(group)", "derived": "(group)",
        "quotient": "(group, normal)", "as_group": "(group, subgroup)"},
    "constants": {
        "constant": "(group, i, j, k)", "class_matrix": "(group, i)", "class_matrices": "(group)",
        "central_product": "(group, x, y)", "class_sizes": "(group)", "triples": "(group, i, j, k)",
        "commuting_pairs": "(group)"},
    "splitting": {
        "prime_of": "(n, e)", "root_of": "(p, e)", "split": "(matrices, p)", "modular_rows": "(group)",
        "is_modular_row": "(matrices, p, row)"},
    "lifting": {
        "degree_of": "(group, p, row)", "modular_character": "(group, p, row)",
        "multiplicities": "(group, p, character, i)", "lifted": "(group, p, character)", "characters": "(group)",
        "central_row": "(group, d, values)"},
    "table": {"character_table": "(group)", "is_central_row": "(group, row)"},
    "papers": {"table_paper": "(table)"},
    "checker": {"takes_table": "(group, paper)", "is_class_list": "(group, value)"},
    "functions": {
        "everywhere": "(group, c)", "character": "(table, k)", "combined": "(table, multiples)",
        "fixed_points": "(group, permutations)"},
    "induced": {
        "restricted": "(f, subgroup)", "induced": "(group, subgroup, f)", "coset_function": "(group, subgroup)"},
    "normal": {
        "kernel": "(table, k)", "centre": "(table, k)", "elements_of": "(group, indexes)",
        "normal_subgroups": "(table)", "derived": "(table)", "group_centre": "(table)", "linear": "(table)"},
    "lattice": {
        "join": "(table, one, two)", "meet": "(one, two)", "quotient_characters": "(table, normal)",
        "chief_row": "(table)", "chief_factors": "(table)", "is_simple": "(table)", "is_soluble": "(table)",
        "is_abelian": "(table)"},
    "sheet": {"read_line": "(names, line)", "table_text": "(rows)", "read_rows": "(text)"},
    "replies": {"reply_to": "(names, line)", "is_right": "(names, entry)"},
    "log": {"write_log": "(entries)", "read_log": "(text)", "first_wrong": "(entries)"},
}

CLASSES = {
    "errors": {
        "Fault": {}, "ZeroDivisor": {}, "Malformed": {}, "Refused": {"__init__": "(self, reason)"},
        "NoText": {"__init__": "(self, at)"}},
    "cyclo": {"Cyclo": {
        "__init__": "(self, e, items, low=1)", "__add__": "(self, other)", "__sub__": "(self, other)",
        "__mul__": "(self, other)", "__neg__": "(self)", "__eq__": "(self, other)", "__str__": "(self)",
        "key": "(self)", "over": "(self, n)", "scaled": "(self, n)", "power": "(self, k)", "mirrored": "(self)",
        "image": "(self, k)", "norm_square": "(self)", "is_zero": "(self)", "rational": "(self)", "whole": "(self)"}},
    "permutation": {"Permutation": {
        "__init__": "(self, images)", "__mul__": "(self, other)", "__eq__": "(self, other)", "__call__": "(self, k)",
        "__str__": "(self)", "inverse": "(self)", "order": "(self)", "cycles": "(self)", "fixed": "(self)"}},
    "group": {"Group": {
        "__init__": "(self, table)", "__len__": "(self)", "__eq__": "(self, other)", "product": "(self, x, y)",
        "inverse": "(self, x)", "power": "(self, x, k)", "order_of": "(self, x)", "conjugated": "(self, x, g)",
        "exponent": "(self)", "is_abelian": "(self)", "relabelled": "(self, images)"}},
    "table": {"CharacterTable": {
        "__init__": "(self, group, rows)", "__len__": "(self)", "__iter__": "(self)", "__eq__": "(self, other)",
        "degrees": "(self)", "value": "(self, k, x)", "central": "(self, k)"}},
    "functions": {"ClassFunction": {
        "__init__": "(self, group, values, *, known=None)", "__add__": "(self, other)", "__sub__": "(self, other)",
        "__mul__": "(self, other)", "__neg__": "(self)", "__eq__": "(self, other)", "__call__": "(self, x)",
        "degree": "(self)", "scaled": "(self, c)", "mirrored": "(self)", "raised": "(self, k)", "inner": "(self, g)",
        "symmetric_square": "(self)", "exterior_square": "(self)", "indicator": "(self)", "multiples": "(self, table)",
        "is_sum_of_characters": "(self, table)"}},
    "replies": {"Reply": {"__init__": "(self, kind, text='')", "__eq__": "(self, other)"}},
    "console": {"Console": {
        "__init__": "(self, *, most=200)", "enter": "(self, line)", "__len__": "(self)", "__iter__": "(self)",
        "names": "(self)", "log": "(self)"}},
}


def module(name):
    return importlib.import_module("classtable." + name)


class Interface(unittest.TestCase):
    def test_functions(self):
        for name, functions in FUNCTIONS.items():
            for word, told in functions.items():
                found = getattr(module(name), word)
                self.assertTrue(inspect.isfunction(found), word)
                self.assertEqual(found.__module__, "classtable." + name, word)
                self.assertEqual(str(inspect.signature(found)), told, word)

    def test_classes(self):
        for name, kinds in CLASSES.items():
            for word, methods in kinds.items():
                found = getattr(module(name), word)
                self.assertTrue(inspect.isclass(found), word)
                self.assertEqual(found.__module__, "classtable." + name, word)
                for method, told in methods.items():
                    self.assertIn(method, vars(found), word)
                    self.assertEqual(str(inspect.signature(vars(found)[method])), told, (word, method))

    def test_the_package_itself_defines_nothing(self):
        package = importlib.import_module("classtable")
        names = {word for word in vars(package) if not word.startswith("__")}
        self.assertEqual({word for word in names if not inspect.ismodule(getattr(package, word))}, set())


if __name__ == "__main__":
    unittest.main()
