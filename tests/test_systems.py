"""Promise [5] and the section fewlabels/systems.py without balances(), and [1] as far as it concerns them."""

import unittest

from fewlabels.errors import BadAssignment, BadName
from fewlabels.formulas import Formula, Name, Number
from fewlabels.systems import System
from fewlabels.units import Unit
from tests.helpers import LETTERS, NO_INTEGERS, NO_NAME_KEYS, NO_NAMES, PromiseCase, plain_system, way_system
from tests.oracles import Picks, picked_formula, picked_unit, some_fit_exists

A, B, C = Name("a"), Name("b"), Name("c")
METRE, SECOND, KILO, PLAIN = Unit.base("m"), Unit.base("s"), Unit.base("kg"), Unit({})
AB = Formula(A, B)
TWO = {"a": (1, None), "b": (2, None)}
NO_BASES = (
    None, True, 0, 1, "", "m", "ms", b"m", (), ["m"], ["m", "s"], {"m": 1}, {"m"}, object(), Unit({}), METRE,
    ("m", "s", "kg", "a"), ("m", "m"), ("m", "s", "m"), ("m", "s", "s"), (("m",),), (METRE,),
)
NO_PAIRS = (
    None, True, 1, "", "ab", METRE, (), (1,), (1, None, None), [1, None], {1: None}, (None, 1), (METRE, 1),
    ((1, None),), (0, None), (10, None), (-1, None), (10 ** 30, None), (1, KILO), (1, METRE * KILO),
    (1, METRE // KILO), (1, "m"), (1, {}), (1, {"m": 1}), (1, ()), (1, True), (1, False), (1, 0), (1, 1), (1, A),
    (1, Unit),
)


def costs(names):
    """A dict from the names to a cost of 1 and no label."""
    return {name: (1, None) for name in names}


class TestMembers(unittest.TestCase):

    def test_methods_stand_in_the_class_itself(self):
        for word in ("__init__", "__eq__", "bases", "names", "formulas", "cost", "label", "balances", "fits"):
            self.assertIn(word, vars(System))
        self.assertEqual(System.__module__, "fewlabels.systems")

    def test_properties(self):
        formulas = [Formula(B, A * A), Formula(B, B)]
        system = System(("s", "m"), {"b": (9, SECOND ** 2), "a": (1, None)}, formulas)
        self.assertEqual(system.bases, ("s", "m"))
        self.assertIsInstance(system.bases, tuple)
        self.assertEqual(system.names, ["b", "a"])
        self.assertEqual(system.formulas, formulas)

    def test_formulas_in_a_tuple_are_a_list(self):
        system = System(("m",), TWO, (AB, AB))
        self.assertIsInstance(system.formulas, list)
        self.assertEqual(system.formulas, [AB, AB])

    def test_cost_and_label(self):
        system = System(("m", "s"), {"a": (9, METRE), "b": (1, None), "c": (5, PLAIN)}, [Formula(A, B * C)])
        self.assertEqual([system.cost(name) for name in "abc"], [9, 1, 5])
        self.assertEqual([system.label(name) for name in "abc"], [METRE, None, PLAIN])
        self.assertIsNone(system.label("b"))
        self.assertIsNotNone(system.label("c"))

    def test_properties_cannot_be_assigned(self):
        system = way_system()
        for word in ("bases", "names", "formulas"):
            with self.subTest(word=word), self.assertRaises(AttributeError):
                setattr(system, word, [])


class TestSizes(PromiseCase):

    def test_one_to_three_bases(self):
        for bases in (("m",), ("s", "m"), ("kg", "m", "s")):
            self.assertEqual(System(bases, TWO, [AB]).bases, bases)
        self.refuses_system("BASES", System, (), TWO, [AB])
        self.refuses_system("BASES", System, ("m", "s", "kg", "a"), TWO, [AB])

    def test_one_to_six_quantities(self):
        for count in range(1, 7):
            self.assertEqual(System(("m",), costs(LETTERS[:count]), [Formula(A, A)]).names, list(LETTERS[:count]))
        self.refuses_system(None, System, ("m",), {}, [Formula(A, A)])
        self.refuses_system(None, System, ("m",), costs(LETTERS[:7]), [Formula(A, A)])

    def test_one_to_six_formulas(self):
        for count in range(1, 7):
            self.assertEqual(System(("m",), TWO, [AB] * count).formulas, [AB] * count)
            self.assertEqual(System(("m",), TWO, (AB,) * count).formulas, [AB] * count)
        for kind in (list, tuple):
            self.refuses_system("FORMULAS", System, ("m",), TWO, kind([]))
            self.refuses_system("FORMULAS", System, ("m",), TWO, kind([AB] * 7))

    def test_costs_from_one_to_nine(self):
        for cost in range(1, 10):
            self.assertEqual(System(("m",), {"a": (cost, None)}, [Formula(A, A)]).cost("a"), cost)
        for cost in (0, 10, -1, -9, 10 ** 20):
            self.refuses_system("a", System, ("m",), {"a": (cost, None)}, [Formula(A, A)])

    def test_names_of_one_to_eight_letters(self):
        system = System(("zzzzzzzz",), {"abcdefgh": (1, None), "x": (1, None)}, [Formula(Name("abcdefgh"), Name("x"))])
        self.assertEqual([system.bases, system.names], [("zzzzzzzz",), ["abcdefgh", "x"]])

    def test_a_quantity_may_be_called_as_a_base_unit(self):
        system = System(("a",), {"a": (1, Unit.base("a")), "b": (1, None)}, [AB])
        self.assertEqual(system.label("a"), Unit.base("a"))

    def test_a_quantity_without_a_formula(self):
        self.assertEqual(System(("m",), costs("abc"), [Formula(A, A)]).names, ["a", "b", "c"])

    def test_labels(self):
        for label in (None, PLAIN, METRE, SECOND ** -7, METRE ** 10 ** 20 * SECOND):
            self.assertEqual(System(("m", "s"), {"a": (1, label), "b": (1, None)}, [AB]).label("a"), label)


class TestRefusedSystems(PromiseCase):

    def test_bases(self):
        for bases in NO_BASES:
            with self.subTest(bases=bases):
                self.refuses_system("BASES", System, bases, TWO, [AB])

    def test_names_of_bases(self):
        for name in NO_NAMES:
            with self.subTest(name=name):
                self.refuses_system("BASES", System, (name,), TWO, [AB])
                self.refuses_system("BASES", System, ("m", "s", name), TWO, [AB])

    def test_quantities(self):
        for thing in (None, True, 0, 1, "a", b"a", (), ("a",), [], ["a"], [("a", (1, None))], {"a"}, object(), METRE):
            with self.subTest(thing=thing):
                self.refuses_system(None, System, ("m",), thing, [Formula(A, A)])

    def test_names_of_quantities(self):
        for name in NO_NAME_KEYS:
            with self.subTest(name=name):
                self.refuses_system(name, System, ("m",), {name: (1, None)}, [Formula(A, A)])
                self.refuses_system(name, System, ("m",), {"a": (1, None), name: (1, None), "b": 0}, [Formula(A, A)])

    def test_values_of_quantities(self):
        for pair in NO_PAIRS:
            with self.subTest(pair=pair):
                self.refuses_system("b", System, ("m", "s"), {"a": (1, None), "b": pair, "c": pair}, [AB])

    def test_costs_that_are_no_integers(self):
        for cost in NO_INTEGERS:
            with self.subTest(cost=cost):
                self.refuses_system("a", System, ("m",), {"a": (cost, None), "b": (1, None)}, [AB])

    def test_the_first_quantity_at_fault(self):
        self.refuses_system("b", System, ("m",), {"a": (1, None), "b": (1, SECOND), "C": (1, None)}, [AB])
        self.refuses_system("C", System, ("m",), {"a": (1, None), "C": (1, None), "b": (1, SECOND)}, [AB])
        self.refuses_system("z", System, ("m",), {"z": (0, None), "a": (10, None)}, [AB])

    def test_formulas(self):
        for thing in (None, True, 0, 1, "a", b"a", {}, {AB.names[0]: AB}, {1: AB}, object(), AB, A, METRE):
            with self.subTest(thing=thing):
                self.refuses_system("FORMULAS", System, ("m",), TWO, thing)

    def test_members_of_formulas(self):
        for thing in (None, True, 0, "a", "a = b", (), (A, B), [AB], [], {}, object(), A, METRE, Formula, Number(1)):
            with self.subTest(thing=thing):
                self.refuses_system("FORMULAS", System, ("m",), TWO, [thing])
                self.refuses_system("FORMULAS", System, ("m",), TWO, (AB, AB, thing))

    def test_formulas_with_other_names(self):
        for formula in (Formula(A, C), Formula(C, C), Formula(A * B, Number(1) + C ** 0), Formula(Name("m"), A)):
            self.refuses_system("FORMULAS", System, ("m",), TWO, [formula])
            self.refuses_system("FORMULAS", System, ("m",), TWO, [AB, formula])

    def test_the_part_that_is_named_first(self):
        self.refuses_system("BASES", System, [], None, None)
        self.refuses_system("BASES", System, ("m", "m"), {"A": 0}, [])
        self.refuses_system("BASES", System, (), {}, [AB])
        self.refuses_system(None, System, ("m",), [], [])
        self.refuses_system(None, System, ("m",), costs("ABCDEFG"), [])
        self.refuses_system("A", System, ("m",), {"A": (1, None)}, [])
        self.refuses_system("b", System, ("m",), {"a": (1, None), "b": (1, SECOND)}, [Formula(A, C)])

    def test_a_label_of_another_unit_is_a_fault_of_the_quantity(self):
        self.refuses_system("a", System, ("s",), {"a": (1, METRE)}, [Formula(A, Number(1))])


class TestNoFit(PromiseCase):

    def refuses_labels(self, bases, labels, *formulas):
        """Check that no assignment fits a system with these labels."""
        self.refuses_system("FORMULAS", System, bases, {name: (1, labels[name]) for name in labels}, list(formulas))

    def test_a_plain_unit_of_a_labelled_quantity(self):
        self.refuses_labels(("m",), {"a": METRE}, Formula(A, Number(1)))
        self.refuses_labels(("m",), {"a": METRE}, Formula(Number(3) + A ** 2, A // A))
        self.refuses_labels(("m", "s"), {"a": None, "b": SECOND}, Formula(A, A * B))
        self.assertIsNotNone(System(("m",), {"a": (1, PLAIN)}, [Formula(A, Number(1))]))

    def test_half_an_integer(self):
        for label in (METRE, METRE ** 3, METRE ** 2 * SECOND, METRE ** -1, METRE ** (10 ** 20 + 1)):
            self.refuses_labels(("m", "s"), {"a": label, "b": None}, Formula(A, B ** 2))
        for label in (PLAIN, METRE ** 2, METRE ** -4 * SECOND ** 6, SECOND ** 10 ** 20):
            system = System(("m", "s"), {"a": (1, label), "b": (1, None)}, [Formula(A, B ** 2)])
            self.assertEqual(system.label("a"), label)

    def test_half_an_integer_by_way_of_several_formulas(self):
        labels = {"a": METRE, "b": None, "c": None}
        self.refuses_labels(("m",), labels, Formula(A, B * C), Formula(B, C))
        self.refuses_labels(("m",), labels, Formula(A, B ** 2 * C ** 2))
        self.refuses_labels(("m",), labels, Formula(A * B, C ** 2), Formula(B, (C ** 2) ** 2))
        system = System(("m",), {name: (1, labels[name]) for name in labels}, [Formula(A, B ** 2 * C ** 3)])
        self.assertTrue(system.fits({"a": METRE, "b": METRE ** -1, "c": METRE}))

    def test_labels_that_contradict_each_other(self):
        self.refuses_labels(("m", "s"), {"a": METRE, "b": SECOND}, AB)
        self.refuses_labels(("m", "s"), {"a": METRE, "b": METRE ** 2}, AB)
        self.refuses_labels(("m", "s"), {"a": METRE, "b": PLAIN}, AB)
        self.refuses_labels(("m",), {"a": METRE, "b": METRE, "c": None}, Formula(C, A + C), Formula(C * B, C))

    def test_in_the_last_base_unit_only(self):
        self.refuses_labels(("m", "s", "kg"), {"a": METRE * KILO, "b": METRE * KILO ** 2}, AB)
        self.refuses_labels(("m", "s", "kg"), {"a": METRE ** 2 * KILO, "b": None}, Formula(A, B ** 2))

    def test_at_a_sum_deep_inside(self):
        deep = Formula(C, (C // (A + B)) * (B + A))
        self.refuses_labels(("m", "s"), {"a": METRE, "b": SECOND, "c": None}, deep)
        self.assertIsNotNone(System(("m", "s"), {"a": (1, METRE), "b": (1, METRE), "c": (1, None)}, [deep]))

    def test_names_of_quantities_only_come_first_but_have_the_same_part(self):
        self.refuses_labels(("m",), {"a": METRE}, Formula(A, Number(1)), Formula(A, B))

    def test_against_the_divisors_of_minors(self):
        picks = Picks(1)
        seen = {True: 0, False: 0}
        for _ in range(400):
            bases = ("m", "s")[:1 + picks.below(2)]
            names = "abcd"[:1 + picks.below(4)]
            quantities = {name: (1, picked_unit(picks, bases, 3) if picks.below(2) else None) for name in names}
            formulas = [picked_formula(picks, names, 2) for _ in range(1 + picks.below(2))]
            expected = some_fit_exists(bases, quantities, formulas)
            seen[expected] += 1
            if expected:
                self.assertEqual(System(bases, quantities, formulas).names, list(names))
            else:
                self.refuses_system("FORMULAS", System, bases, quantities, formulas)
        self.assertGreater(min(seen.values()), 50)


class TestCostAndLabel(PromiseCase):

    def test_not_a_quantity(self):
        system = way_system(way=METRE)
        for name in NO_NAMES + ("m", "s", "wa", "ways", "Way", A, METRE):
            with self.subTest(name=name):
                self.refuses(BadName, system.cost, name)
                self.refuses(BadName, system.label, name)


class TestFits(PromiseCase):

    def test_the_formula_itself(self):
        system = way_system()
        good = {"way": METRE, "speed": METRE // SECOND, "time": SECOND, "start": METRE}
        self.assertIs(system.fits(good), True)
        self.assertIs(system.fits({name: PLAIN for name in good}), True)
        self.assertIs(system.fits({**good, "way": SECOND}), False)
        self.assertIs(system.fits({**good, "way": PLAIN}), False)

    def test_a_sum_deep_inside(self):
        system = plain_system("abc", Formula(C, (C // (A + B)) * (B + A)))
        self.assertIs(system.fits({"a": METRE, "b": METRE, "c": METRE}), True)
        self.assertIs(system.fits({"a": METRE, "b": PLAIN, "c": METRE}), False)
        system = plain_system("abc", Formula(C, C * ((A - B) ** 2) ** 0))
        self.assertIs(system.fits({"a": METRE, "b": METRE, "c": METRE ** 5}), True)
        self.assertIs(system.fits({"a": METRE, "b": METRE ** 2, "c": METRE ** 5}), False)

    def test_the_second_formula(self):
        system = plain_system("abc", AB, Formula(B * C, Number(1)))
        self.assertIs(system.fits({"a": METRE, "b": METRE, "c": METRE ** -1}), True)
        self.assertIs(system.fits({"a": METRE, "b": METRE, "c": METRE}), False)

    def test_labels(self):
        system = System(("m", "s"), {"a": (1, METRE), "b": (1, None), "c": (1, PLAIN)}, [AB])
        self.assertIs(system.fits({"a": METRE, "b": METRE, "c": PLAIN}), True)
        self.assertIs(system.fits({"a": SECOND, "b": SECOND, "c": PLAIN}), False)
        self.assertIs(system.fits({"a": PLAIN, "b": PLAIN, "c": PLAIN}), False)
        self.assertIs(system.fits({"a": METRE, "b": METRE, "c": METRE}), False)

    def test_another_order(self):
        system = way_system(start=METRE)
        self.assertIs(system.fits({"start": METRE, "time": SECOND, "speed": METRE // SECOND, "way": METRE}), True)

    def test_bad_assignments(self):
        system = System(("m", "s"), TWO, [AB])
        for thing in (None, True, 0, "ab", b"ab", (), ("a", "b"), [("a", METRE), ("b", METRE)], {"a", "b"}, object(),
                      METRE, system, {}, {"a": METRE}, {"b": METRE}, {"a": METRE, "c": METRE}, {"a": METRE, "A": METRE},
                      {"a": METRE, "b": METRE, "c": METRE}, {"a": METRE, "b": METRE, 1: METRE}, {"a": METRE, 1: METRE},
                      {"a": METRE, ("b",): METRE}, {"a": METRE, None: METRE}, {"a": METRE, True: METRE}):
            with self.subTest(thing=thing):
                self.refuses(BadAssignment, system.fits, thing)

    def test_values_that_are_no_units_of_the_bases(self):
        system = System(("m", "s"), TWO, [AB])
        for value in (None, True, 0, 1, "m", "", {"m": 1}, {}, (), [], A, Unit, KILO, METRE * KILO, METRE // KILO):
            with self.subTest(value=value):
                self.refuses(BadAssignment, system.fits, {"a": METRE, "b": value})
                self.refuses(BadAssignment, system.fits, {"a": value, "b": METRE})
                self.refuses(BadAssignment, system.fits, {"a": value, "b": value})

    def test_a_bad_assignment_that_would_not_fit(self):
        system = System(("m", "s"), {"a": (1, METRE), "b": (1, None)}, [AB])
        self.refuses(BadAssignment, system.fits, {"a": SECOND, "b": KILO})


class TestEquality(unittest.TestCase):

    def made(self, bases=("m", "s"), quantities=None, formulas=(AB, Formula(B, A))):
        return System(bases, quantities or {"a": (1, None), "b": (2, METRE)}, formulas)

    def test_equal(self):
        self.assertIs(self.made() == self.made(), True)
        self.assertIs(self.made() != self.made(), False)
        self.assertIs(self.made() == self.made(formulas=[Formula(Name("a"), Name("b")), Formula(B, A)]), True)
        self.assertIs(self.made() == self.made(quantities={"a": (1, None), "b": (2, Unit({"m": 1, "s": 0}))}), True)

    def test_different(self):
        for other in (
                self.made(bases=("s", "m")), self.made(bases=("m",)), self.made(bases=("m", "s", "kg")),
                self.made(bases=("m", "kg")), self.made(quantities={"b": (2, METRE), "a": (1, None)}),
                self.made(quantities={"a": (2, None), "b": (2, METRE)}),
                self.made(quantities={"a": (1, None), "b": (2, None)}),
                self.made(quantities={"a": (1, None), "b": (2, SECOND)}),
                self.made(quantities={"a": (1, None), "b": (2, PLAIN)}),
                self.made(quantities={"a": (1, METRE), "b": (2, METRE)}),
                self.made(quantities={"a": (1, None), "b": (2, METRE), "c": (1, None)}),
                self.made(formulas=[Formula(B, A), AB]), self.made(formulas=[AB]), self.made(formulas=[AB, AB]),
                self.made(formulas=[AB, Formula(B, A), AB])):
            self.assertIs(self.made() == other, False)
            self.assertIs(other == self.made(), False)
            self.assertIs(self.made() != other, True)

    def test_other_names(self):
        other = System(("m", "s"), {"a": (1, None), "c": (2, METRE)}, [Formula(A, C)])
        self.assertIs(self.made() == other, False)

    def test_other_kinds(self):
        for thing in (None, 0, "", (), [], {}, AB, A, METRE):
            self.assertIs(self.made() == thing, False)
            self.assertIs(self.made() != thing, True)


class TestNothingKept(unittest.TestCase):

    def test_arguments_are_not_modified(self):
        quantities = {"b": (1, METRE), "a": (2, None)}
        formulas = [AB]
        system = System(("s", "m"), quantities, formulas)
        assignment = {"a": METRE, "b": METRE}
        self.assertTrue(system.fits(assignment))
        self.assertEqual([list(quantities.items()), formulas], [[("b", (1, METRE)), ("a", (2, None))], [AB]])
        self.assertEqual(list(assignment.items()), [("a", METRE), ("b", METRE)])

    def test_arguments_are_not_kept(self):
        quantities = {"a": (1, METRE), "b": (2, None)}
        formulas = [AB]
        powers = {"m": 1}
        labelled = Unit(powers)
        quantities["a"] = (1, labelled)
        system = System(("m", "s"), quantities, formulas)
        same = System(("m", "s"), quantities, formulas)
        quantities["a"] = (9, SECOND)
        quantities["c"] = (1, None)
        del quantities["b"]
        formulas.append(AB)
        formulas[0] = Formula(B, A)
        powers["m"] = 7
        self.assertEqual([system.names, system.cost("a"), system.label("a")], [["a", "b"], 1, METRE])
        self.assertEqual(system.formulas, [AB])
        self.assertEqual(system.balances(), [{"a": 1, "b": -1}])
        self.assertTrue(system.fits({"a": METRE, "b": METRE}))
        self.assertTrue(system == same)

    def test_results_are_new(self):
        system = way_system()
        formulas = system.formulas
        system.names.append("x")
        system.names.clear()
        system.formulas.clear()
        system.formulas.append(AB)
        system.balances().clear()
        system.balances()[0]["way"] = 5
        system.balances()[1].clear()
        self.assertEqual(system.names, ["way", "speed", "time", "start"])
        self.assertEqual(system.formulas, formulas)
        self.assertEqual(system.balances(), way_system().balances())
        self.assertTrue(system == way_system())
        self.assertIsNot(system.names, system.names)
        self.assertIsNot(system.formulas, system.formulas)
        self.assertIsNot(system.balances(), system.balances())
        self.assertIsNot(system.balances()[0], system.balances()[0])

    def test_a_refused_call_changes_nothing(self):
        system = way_system()
        for call, argument in ((system.cost, "x"), (system.label, []), (system.fits, {"way": METRE})):
            with self.assertRaises(ValueError):
                call(argument)
        self.assertTrue(system == way_system())


if __name__ == "__main__":
    unittest.main()
