"""Promises [6] and [7] and the section fewlabels/following.py, and [1] as far as it concerns them."""

import unittest

from fewlabels import following
from fewlabels.errors import BadChain, BadName, BadSet
from fewlabels.following import is_chain, is_enough, known
from fewlabels.formulas import Formula, Name, Number
from fewlabels.systems import System
from fewlabels.units import Unit
from tests.helpers import NO_CHAINS, NO_INTEGERS, NO_NAMES, NO_SETS, NO_SYSTEMS, PromiseCase, plain_system, way_system
from tests.oracles import Picks, is_chain_by_words, known_by_rank, picked_system, sets_by_size

A, B, C, D = Name("a"), Name("b"), Name("c"), Name("d")
METRE, SECOND, PLAIN = Unit.base("m"), Unit.base("s"), Unit({})


class TestExamples(unittest.TestCase):

    def test_example_of_the_document(self):
        way = Formula(Name('way'), Name('speed') * Name('time') + Name('start'))
        quantities = {'way': (2, None), 'speed': (1, None), 'time': (3, None), 'start': (1, None)}
        system = System(('m', 's'), quantities, [way])
        self.assertEqual(known(system, ('way',)), ['way', 'start'])
        self.assertEqual(known(system, ('speed', 'start')), ['way', 'speed', 'time', 'start'])
        self.assertIs(is_chain(system, ('way',), 'start', (1, (-1, -1))), True)

    def test_functions_stand_in_this_file(self):
        for word in ("known", "is_enough", "is_chain"):
            self.assertEqual(getattr(following, word).__module__, "fewlabels.following")


class TestKnown(unittest.TestCase):

    def test_empty_set(self):
        self.assertEqual(known(way_system(), ()), [])
        self.assertIs(is_enough(way_system(), ()), False)

    def test_sets_that_are_enough(self):
        for names in (("way", "speed"), ("way", "time"), ("speed", "time"), ("speed", "start"), ("time", "start"),
                      ("way", "speed", "time"), ("way", "speed", "time", "start")):
            with self.subTest(names=names):
                self.assertEqual(known(way_system(), names), ["way", "speed", "time", "start"])
                self.assertIs(is_enough(way_system(), names), True)

    def test_sets_that_are_not(self):
        for names, expected in (
                (("way",), ["way", "start"]), (("start",), ["way", "start"]), (("way", "start"), ["way", "start"]),
                (("speed",), ["speed"]), (("time",), ["time"])):
            with self.subTest(names=names):
                self.assertEqual(known(way_system(), names), expected)
                self.assertIs(is_enough(way_system(), names), False)

    def test_labels(self):
        system = way_system(start=METRE)
        self.assertEqual(known(system, ()), ["way", "start"])
        self.assertIs(is_enough(system, ()), False)
        self.assertEqual(known(system, ("time",)), ["way", "speed", "time", "start"])
        self.assertIs(is_enough(system, ("time",)), True)
        self.assertEqual(known(way_system(time=PLAIN), ()), ["time"])
        system = way_system(way=METRE, time=SECOND)
        self.assertEqual(known(system, ()), ["way", "speed", "time", "start"])
        self.assertIs(is_enough(system, ()), True)

    def test_all_labelled(self):
        system = System(("m",), {"a": (1, METRE), "b": (1, METRE)}, [Formula(A, B)])
        self.assertEqual([known(system, ()), is_enough(system, ())], [["a", "b"], True])

    def test_known_from_nothing(self):
        system = plain_system("abc", Formula(A, Number(1)), Formula(B, C))
        self.assertEqual(known(system, ()), ["a"])
        self.assertEqual(known(system, ("b",)), ["a", "b", "c"])
        self.assertEqual(known(plain_system("ab", Formula(A * B, A)), ()), ["b"])
        self.assertEqual(known(plain_system("ab", Formula(A * B, A // B)), ()), ["b"])
        self.assertIs(is_enough(plain_system("a", Formula(A ** -3, Number(7))), ()), True)
        self.assertIs(is_enough(plain_system("ab", Formula(A, B ** 2), Formula(A, B ** -3)), ()), True)

    def test_a_quantity_of_which_only_a_multiple_is_given(self):
        system = plain_system("ab", Formula(A, B ** 2))
        self.assertEqual([known(system, ("a",)), known(system, ("b",))], [["a", "b"], ["a", "b"]])

    def test_a_quantity_that_no_formula_speaks_of(self):
        system = plain_system("abc", Formula(A, B))
        self.assertEqual(known(system, ("a",)), ["a", "b"])
        self.assertEqual(known(system, ("a", "c")), ["a", "b", "c"])
        system = plain_system("ab", Formula(A, A))
        self.assertEqual([known(system, ()), known(system, ("b",))], [[], ["b"]])

    def test_exponents_of_zero_say_nothing(self):
        system = plain_system("ab", Formula(A, B ** 0 * A))
        self.assertEqual([known(system, ()), known(system, ("a",))], [[], ["a"]])

    def test_only_together(self):
        system = plain_system("abcd", Formula(A * B, C * D), Formula(A // B, D // C))
        self.assertEqual(known(system, ("a", "b")), ["a", "b", "c", "d"])
        self.assertEqual(known(system, ("a", "d")), ["a", "d"])
        self.assertEqual(known(system, ("a", "c")), ["a", "b", "c", "d"])

    def test_order_is_that_of_the_system(self):
        self.assertEqual(known(plain_system("cab", Formula(A, B)), ("c", "b")), ["c", "a", "b"])

    def test_the_list_is_new(self):
        system = way_system()
        known(system, ("way",)).clear()
        found = known(system, ("way", "speed"))
        found.append("x")
        self.assertEqual(known(system, ("way",)), ["way", "start"])
        self.assertEqual(known(system, ("way", "speed")), ["way", "speed", "time", "start"])
        self.assertEqual(system.names, ["way", "speed", "time", "start"])

    def test_against_ranks(self):
        picks = Picks(3)
        for _ in range(150):
            system = picked_system(picks, 2)
            for names in sets_by_size(system):
                expected = known_by_rank(system, names)
                self.assertEqual(known(system, names), expected)
                self.assertIs(is_enough(system, names), expected == system.names)


class TestChains(unittest.TestCase):

    def test_what_is_and_what_is_not_one(self):
        system = way_system()
        for name, chain, expected in (
                ("start", (1, (-1, -1)), True), ("start", (2, (-2, -2)), True), ("start", (1, (1, 1)), False),
                ("start", (1, (-1, 0)), False), ("start", (1, (0, -1)), False), ("start", (1, (0, 0)), False),
                ("start", (2, (-1, -1)), False), ("start", (1, (-2, -2)), False), ("speed", (1, (1, 0)), False),
                ("time", (1, (-1, -1)), False)):
            with self.subTest(name=name, chain=chain):
                self.assertIs(is_chain(system, ("way",), name, chain), expected)

    def test_the_same_chain_from_other_sets(self):
        system = way_system()
        self.assertIs(is_chain(system, ("speed", "start"), "time", (1, (1, 0))), True)
        self.assertIs(is_chain(system, ("speed",), "time", (1, (1, 0))), False)
        self.assertIs(is_chain(system, ("start",), "time", (1, (1, 0))), False)
        self.assertIs(is_chain(system, (), "time", (1, (1, 0))), False)
        self.assertIs(is_chain(way_system(start=METRE), ("speed",), "time", (1, (1, 0))), True)
        self.assertIs(is_chain(way_system(start=METRE, speed=PLAIN), (), "time", (1, (1, 0))), True)
        self.assertIs(is_chain(way_system(way=METRE), ("speed",), "time", (1, (1, 0))), False)

    def test_k_above_one(self):
        system = plain_system("ab", Formula(A, B ** 2))
        self.assertIs(is_chain(system, ("a",), "b", (2, (-1,))), True)
        self.assertIs(is_chain(system, ("a",), "b", (4, (-2,))), True)
        self.assertIs(is_chain(system, ("a",), "b", (1, (-1,))), False)
        self.assertIs(is_chain(system, ("a",), "b", (2, (1,))), False)
        self.assertIs(is_chain(system, ("b",), "a", (1, (1,))), True)
        self.assertIs(is_chain(system, ("b",), "a", (3, (3,))), True)

    def test_k_of_zero_and_below(self):
        system = plain_system("ab", Formula(A, B))
        self.assertIs(is_chain(system, ("a",), "b", (0, (0,))), False)
        self.assertIs(is_chain(system, ("a",), "b", (-1, (1,))), False)
        self.assertIs(is_chain(system, ("a",), "b", (-2, (2,))), False)
        self.assertIs(is_chain(system, ("a",), "b", (-1, (-1,))), False)
        self.assertIs(is_chain(system, ("a",), "b", (1, (-1,))), True)
        self.assertIs(is_chain(system, ("a",), "a", (0, ())), False)
        self.assertIs(is_chain(system, ("a",), "a", (-1, ())), False)

    def test_too_few_or_too_many_integers(self):
        system = way_system()
        for integers in ((), (-1,), (-1, -1, 0), (-1, -1, 0, 0), (0, -1, -1)):
            with self.subTest(integers=integers):
                self.assertIs(is_chain(system, ("way",), "start", (1, integers)), False)
        system = plain_system("ab", Formula(A, B), Formula(A, A))
        self.assertIs(is_chain(system, ("a",), "b", (1, (-1,))), False)
        self.assertIs(is_chain(system, ("a",), "b", (1, (-1, 5))), True)

    def test_a_quantity_left_over(self):
        system = plain_system("abc", Formula(A, B * C))
        self.assertIs(is_chain(system, ("b",), "a", (1, (1,))), False)
        self.assertIs(is_chain(system, ("b", "c"), "a", (1, (1,))), True)

    def test_a_quantity_in_the_set_or_labelled(self):
        system = way_system(time=SECOND)
        for name in ("way", "time"):
            self.assertIs(is_chain(system, ("way",), name, (1, ())), True)
            for chain in ((2, ()), (0, ()), (-1, ()), (1, (0,)), (1, (0, 0)), (1, (0, 1)), (1, (1, 1)), (2, (0, 2))):
                with self.subTest(name=name, chain=chain):
                    self.assertIs(is_chain(system, ("way",), name, chain), False)
        for name in ("speed", "start"):
            self.assertIs(is_chain(system, ("way",), name, (1, ())), False)

    def test_a_chain_for_what_is_known_from_nothing(self):
        system = plain_system("ab", Formula(A * B, B))
        self.assertIs(is_chain(system, (), "a", (1, (1,))), True)
        self.assertIs(is_chain(system, ("b",), "a", (1, (1,))), True)
        self.assertIs(is_chain(system, ("a",), "b", (1, (1,))), False)

    def test_large_integers(self):
        system = plain_system("ab", Formula(A, B))
        self.assertIs(is_chain(system, ("a",), "b", (10 ** 40, (-10 ** 40,))), True)
        self.assertIs(is_chain(system, ("a",), "b", (10 ** 40, (1 - 10 ** 40,))), False)

    def test_against_the_words_of_the_document(self):
        picks = Picks(4)
        seen = {True: 0, False: 0}
        for _ in range(600):
            system = picked_system(picks, 2)
            names = picks.one_of(sets_by_size(system))
            name = picks.one_of(system.names)
            count = len(system.balances())
            for _ in range(20):
                length = picks.one_of((0, count, count, count))
                chain = (picks.below(4), tuple(picks.below(3) - 1 for _ in range(length)))
                expected = is_chain_by_words(system, names, name, chain)
                seen[expected] += 1
                self.assertIs(is_chain(system, names, name, chain), expected)
        self.assertGreater(min(seen.values()), 200)


class TestErrors(PromiseCase):

    def test_bad_systems(self):
        for thing in NO_SYSTEMS:
            with self.subTest(thing=thing):
                for names in ((), None):
                    self.refuses_system(None, known, thing, names)
                    self.refuses_system(None, is_enough, thing, names)
                self.refuses_system(None, is_chain, thing, (), "a", (1, ()))
                self.refuses_system(None, is_chain, thing, None, None, None)

    def test_bad_sets(self):
        system = way_system()
        for names in NO_SETS:
            with self.subTest(names=names):
                self.refuses(BadSet, known, system, names)
                self.refuses(BadSet, is_enough, system, names)
                self.refuses(BadSet, is_chain, system, names, "way", (1, ()))
                self.refuses(BadSet, is_chain, system, names, None, None)

    def test_names_in_a_set(self):
        for name in NO_NAMES:
            with self.subTest(name=name):
                self.refuses(BadSet, known, way_system(), (name,))
                self.refuses(BadSet, known, way_system(), ("way", name))

    def test_labelled_quantities_in_a_set(self):
        system = way_system(way=METRE, time=PLAIN)
        for names in (("way",), ("time",), ("way", "speed"), ("speed", "time"), ("speed", "time", "start")):
            for call in (known, is_enough):
                self.refuses(BadSet, call, system, names)
            self.refuses(BadSet, is_chain, system, names, "way", (1, ()))
        self.assertEqual(known(system, ("speed",)), ["way", "speed", "time", "start"])

    def test_bad_names(self):
        for name in NO_NAMES + ("m", "x", "wa", "ways", "Way", ("way",), METRE, Name("way")):
            with self.subTest(name=name):
                self.refuses(BadName, is_chain, way_system(), ("way",), name, (1, ()))
                self.refuses(BadName, is_chain, way_system(), (), name, None)

    def test_bad_chains(self):
        for chain in NO_CHAINS:
            for name in ("way", "start"):
                with self.subTest(chain=chain, name=name):
                    self.refuses(BadChain, is_chain, way_system(), ("way",), name, chain)

    def test_parts_that_are_no_integers(self):
        for thing in NO_INTEGERS:
            for name in ("way", "start"):
                with self.subTest(thing=thing, name=name):
                    for chain in ((thing, ()), (thing, (-1, -1)), (1, (thing,)), (1, (-1, thing)), (1, (thing, -1))):
                        self.refuses(BadChain, is_chain, way_system(), ("way",), name, chain)

    def test_the_error_that_is_documented_first(self):
        system = way_system()
        self.refuses_system(None, is_chain, None, ["way"], "x", None)
        self.refuses(BadSet, is_chain, system, ["way"], "x", None)
        self.refuses(BadName, is_chain, system, ("way",), "x", None)
        self.refuses(BadChain, is_chain, system, ("way",), "start", None)

    def test_arguments_are_not_modified(self):
        system = way_system()
        is_chain(system, ("way",), "start", (1, (-1, -1)))
        self.refuses(BadSet, known, system, ["way"])
        self.assertTrue(system == way_system())


if __name__ == "__main__":
    unittest.main()
