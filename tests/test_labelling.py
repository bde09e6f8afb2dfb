"""Promise [8] and the section fewlabels/labelling.py, and [1] as far as it concerns them."""

import unittest

from fewlabels import labelling
from fewlabels.errors import BadSet
from fewlabels.following import is_chain, is_enough
from fewlabels.formulas import Formula, Name, Number
from fewlabels.labelling import Labelling, cheapest, set_cost
from fewlabels.systems import System
from fewlabels.units import Unit
from tests.helpers import LETTERS, NO_NAMES, NO_SETS, NO_SYSTEMS, PromiseCase, plain_system, way_system
from tests.oracles import (
    Picks, doubts_suffice, first_cheapest, is_chain_by_words, picked_system, sets_by_size, shows_by_words,
)

A, B, C, D = Name("a"), Name("b"), Name("c"), Name("d")
METRE, SECOND, PLAIN = Unit.base("m"), Unit.base("s"), Unit({})


def costly_system(costs, *formulas):
    """A system with one base unit, in which the quantities a, b, .. have these costs and no labels."""
    return System(("m",), {name: (cost, None) for name, cost in zip(LETTERS, costs)}, list(formulas))


def way_labelling():
    """A Labelling for the system of the document's examples, written by hand, with sets, chains and doubts."""
    chains = {"way": (1, (1, 1)), "speed": (1, ()), "time": (1, (1, 0)), "start": (1, ())}
    still = {"way": METRE, "speed": METRE, "time": PLAIN, "start": METRE}
    faster = {"way": METRE, "speed": METRE // SECOND, "time": SECOND, "start": METRE}
    longer = {"way": SECOND, "speed": METRE, "time": SECOND // METRE, "start": SECOND}
    return Labelling(("speed", "start"), chains, [(still, faster), (longer, still)])


class TestExample(unittest.TestCase):

    def test_example_of_the_document(self):
        way = Formula(Name('way'), Name('speed') * Name('time') + Name('start'))
        quantities = {'way': (2, None), 'speed': (1, None), 'time': (3, None), 'start': (1, None)}
        system = System(('m', 's'), quantities, [way])
        found = cheapest(system)
        self.assertEqual(found.labelled, ('speed', 'start'))
        self.assertEqual(found.chains['start'], (1, ()))
        self.assertIs(found.shows(system), True)

    def test_all_stands_in_this_file(self):
        for word in ("set_cost", "cheapest", "Labelling"):
            self.assertEqual(getattr(labelling, word).__module__, "fewlabels.labelling")
        for word in ("__init__", "__eq__", "shows"):
            self.assertIn(word, vars(Labelling))


class TestSetCost(PromiseCase):

    def test_costs(self):
        system = way_system(time=SECOND)
        for names, cost in (((), 0), (("way",), 2), (("speed",), 1), (("way", "start"), 3), (("way", "speed"), 3)):
            self.assertEqual(set_cost(system, names), cost)
        self.assertEqual(set_cost(way_system(), ("way", "speed", "time", "start")), 7)

    def test_largest_cost(self):
        system = costly_system((9,) * 6, Formula(A, A))
        self.assertEqual(set_cost(system, tuple("abcdef")), 54)

    def test_errors(self):
        for thing in NO_SYSTEMS:
            with self.subTest(thing=thing):
                self.refuses_system(None, set_cost, thing, ())
                self.refuses_system(None, set_cost, thing, None)
        for names in NO_SETS + tuple((name,) for name in NO_NAMES):
            with self.subTest(names=names):
                self.refuses(BadSet, set_cost, way_system(), names)
        self.refuses(BadSet, set_cost, way_system(time=SECOND), ("time",))
        self.refuses(BadSet, set_cost, way_system(time=PLAIN), ("way", "time"))


class TestCheapest(PromiseCase):

    def labels(self, system, *names):
        """Check that these are labelled, and that the rest of the Labelling is as the document says."""
        found = cheapest(system)
        self.assertEqual(found.labelled, names)
        self.assertIsInstance(found.labelled, tuple)
        self.assertEqual(list(found.chains), system.names)
        for name, (times, integers) in found.chains.items():
            self.assertTrue(is_chain_by_words(system, names, name, (times, integers)), name)
            self.assertIsInstance(found.chains[name], tuple)
            self.assertIsInstance(integers, tuple)
            self.assertTrue(all(integer.__class__ is int for integer in (times, *integers)))
        self.assertIsInstance(found.doubts, list)
        for doubt in found.doubts:
            self.assertIsInstance(doubt, tuple)
            self.assertEqual([list(assignment) for assignment in doubt], [system.names] * 2)
        self.assertTrue(doubts_suffice(system, found.doubts, sum(system.cost(name) for name in names)))
        self.assertIs(found.shows(system), True)
        return found

    def test_ways(self):
        self.labels(way_system(), "speed", "start")
        self.labels(way_system(start=METRE), "speed")
        self.labels(way_system(speed=METRE), "start")
        self.labels(way_system(time=SECOND), "speed")

    def test_the_empty_set(self):
        found = self.labels(way_system(way=METRE, time=SECOND))
        self.assertEqual(found.doubts, [])
        self.labels(plain_system("a", Formula(A, Number(1))))
        self.labels(plain_system("ab", Formula(A, B ** 2), Formula(A, B ** -3)))
        self.labels(way_system(way=METRE, speed=METRE, time=PLAIN, start=METRE))

    def test_ties(self):
        self.labels(plain_system("ab", Formula(A, B)), "a")
        self.labels(plain_system("ba", Formula(A, B)), "b")
        self.labels(plain_system("abc", Formula(A, B * C)), "a", "b")
        self.labels(plain_system("abcd", Formula(A, B), Formula(C, D)), "a", "c")
        self.labels(plain_system("abcd", Formula(D, C), Formula(B, A)), "a", "c")
        self.labels(costly_system((2, 1, 1), Formula(A * B, C)), "b", "c")
        self.labels(costly_system((3, 2, 2, 2), Formula(A, B * C * D)), "b", "c", "d")
        self.labels(costly_system((2, 3, 2, 2), Formula(A, C), Formula(B, C * D)), "a", "d")

    def test_the_price_decides(self):
        self.labels(costly_system((9, 1), Formula(A, B)), "b")
        self.labels(costly_system((3, 1, 1), Formula(A, B), Formula(C, C)), "b", "c")
        self.labels(costly_system((1, 2, 9), Formula(A * B, C)), "a", "b")
        self.labels(costly_system((9, 8, 7, 6, 5, 4), Formula(A * B, C * D)), "b", "c", "d", "e", "f")

    def test_quantities_that_no_formula_speaks_of(self):
        self.labels(plain_system("abc", Formula(A, A)), "a", "b", "c")
        self.labels(plain_system("abc", Formula(B, Number(1))), "a", "c")
        found = self.labels(plain_system("abcdef", Formula(A, B)), "a", "c", "d", "e", "f")
        self.assertEqual(len(found.doubts), 5)

    def test_exponents_that_follow_only_for_a_multiple(self):
        found = self.labels(costly_system((1, 2), Formula(A, B ** 2)), "a")
        self.assertEqual(found.chains["b"], (2, (-1,)))
        self.labels(costly_system((2, 1), Formula(A, B ** 2)), "b")
        found = self.labels(costly_system((1, 5), Formula(A ** 2, B ** 3)), "a")
        self.assertEqual(found.chains["b"], (3, (-1,)))
        self.labels(costly_system((1, 1, 9, 9), Formula(A * B, C ** 2), Formula(A // B, D ** 3)), "a", "b")

    def test_three_bases_and_labels(self):
        bases = ("kg", "m", "s")
        force = Unit({"kg": 1, "m": 1, "s": -2})
        names = {"f": (3, force), "m": (1, None), "a": (1, None), "e": (2, None), "s": (1, None), "t": (9, None)}
        formulas = [Formula(Name("f"), Name("m") * Name("a")), Formula(Name("e"), Name("f") * Name("s")),
                    Formula(Name("s"), Number(1) * Name("a") * Name("t") ** 2)]
        system = System(bases, names, formulas)
        self.labels(system, "m", "s")

    def test_against_trying_all_sets(self):
        picks = Picks(5)
        for _ in range(120):
            system = picked_system(picks, 2)
            self.labels(system, *first_cheapest(system))

    def test_no_doubt_is_needless(self):
        picks = Picks(6)
        for _ in range(40):
            system = picked_system(picks, 2)
            found = cheapest(system)
            for at in range(len(found.doubts)):
                fewer = Labelling(found.labelled, found.chains, found.doubts[:at] + found.doubts[at + 1:])
                self.assertIs(fewer.shows(system), False)

    def test_results_are_new(self):
        system = way_system()
        first, second = cheapest(system), cheapest(system)
        self.assertTrue(first == second)
        first.chains.clear()
        first.doubts[0][0].clear()
        first.doubts[-1][1]["way"] = METRE
        first.doubts.clear()
        self.assertTrue(cheapest(system) == second)
        self.assertTrue(second.shows(system))
        self.assertTrue(system == way_system())
        found = cheapest(plain_system("abc", Formula(A, A)))
        assignments = [assignment for doubt in found.doubts for assignment in doubt]
        self.assertEqual(len({id(assignment) for assignment in assignments}), len(assignments))

    def test_errors(self):
        for thing in NO_SYSTEMS:
            with self.subTest(thing=thing):
                self.refuses_system(None, cheapest, thing)


class TestLabelling(unittest.TestCase):

    def test_attributes(self):
        found = way_labelling()
        self.assertEqual(found.labelled, ("speed", "start"))
        self.assertEqual(found.chains["time"], (1, (1, 0)))
        self.assertEqual(len(found.doubts), 2)

    def test_the_dict_and_the_list_are_copied(self):
        chains = {"b": (1, ()), "a": (2, (-1,))}
        doubts = [({"b": METRE, "a": METRE}, {"b": PLAIN, "a": PLAIN})]
        found = Labelling(("b",), chains, doubts)
        chains["b"] = (3, ())
        del chains["a"]
        doubts.append(doubts[0])
        self.assertEqual(list(found.chains.items()), [("b", (1, ())), ("a", (2, (-1,)))])
        self.assertEqual(len(found.doubts), 1)
        found.chains.clear()
        found.doubts.clear()
        self.assertEqual([chains, len(doubts)], [{"b": (3, ())}, 2])

    def test_the_assignments_are_not_copied(self):
        one, other = {"a": METRE}, {"a": PLAIN}
        found = Labelling(("a",), {"a": (1, ())}, [(one, other)])
        self.assertIs(found.doubts[0][0], one)
        self.assertIs(found.doubts[0][1], other)

    def test_equality(self):
        self.assertIs(way_labelling() == way_labelling(), True)
        self.assertIs(way_labelling() != way_labelling(), False)
        changed = []
        for _ in range(6):
            changed.append(way_labelling())
        changed[0].labelled = ("speed",)
        changed[1].chains["way"] = (1, (1, 2))
        del changed[2].chains["way"]
        changed[3].doubts.pop()
        changed[4].doubts.reverse()
        changed[5].doubts[0][0]["way"] = PLAIN
        for other in changed:
            self.assertIs(way_labelling() == other, False)
            self.assertIs(other == way_labelling(), False)
            self.assertIs(way_labelling() != other, True)

    def test_equality_without_the_order_of_a_dict(self):
        found = way_labelling()
        found.chains = {name: found.chains[name] for name in sorted(found.chains)}
        self.assertIs(found == way_labelling(), True)

    def test_equality_with_other_kinds(self):
        for thing in (None, 0, "", (), [], {}, ("speed", "start"), METRE, A, way_system()):
            self.assertIs(way_labelling() == thing, False)
            self.assertIs(way_labelling() != thing, True)


class TestShows(PromiseCase):

    def shows(self, expected, system, found):
        """Check what shows() says, and that it says so by the words of the document, too."""
        self.assertIs(shows_by_words(system, found), expected)
        self.assertIs(found.shows(system), expected)

    def changed(self, expected, **attributes):
        """Check what shows() says of the Labelling that was written by hand, with these attributes instead."""
        found = way_labelling()
        for word, thing in attributes.items():
            setattr(found, word, thing)
        self.shows(expected, way_system(), found)

    def test_by_hand(self):
        self.changed(True)

    def test_errors(self):
        for thing in NO_SYSTEMS:
            with self.subTest(thing=thing):
                self.refuses_system(None, way_labelling().shows, thing)

    def test_another_set_of_the_same_cost(self):
        system = plain_system("ab", Formula(A, B))
        found = cheapest(system)
        chains = {"a": (1, ()), "b": (1, (-1,))}
        self.shows(True, system, found)
        self.shows(True, system, Labelling(("a",), chains, found.doubts))
        self.shows(False, system, Labelling(("b",), chains, found.doubts))
        self.shows(True, system, Labelling(("b",), {"a": (1, (1,)), "b": (1, ())}, found.doubts))

    def test_a_set_that_costs_more(self):
        chains = {"way": (1, (1, 1)), "speed": (1, (1, 0)), "time": (1, ()), "start": (1, ())}
        self.assertTrue(is_enough(way_system(), ("time", "start")))
        self.changed(False, labelled=("time", "start"), chains=chains)
        chains = {"way": (1, ()), "speed": (1, ()), "time": (1, (0, -1)), "start": (1, (-1, -1))}
        self.changed(False, labelled=("way", "speed"), chains=chains)
        chains = {"way": (1, ()), "speed": (1, ()), "time": (1, ()), "start": (1, ())}
        self.changed(False, labelled=("way", "speed", "time", "start"), chains=chains)

    def test_a_set_that_is_not_enough(self):
        for labelled in ((), ("speed",), ("start",), ("way",), ("way", "start")):
            self.changed(False, labelled=labelled)

    def test_a_wrong_chain(self):
        for name, chain in (
                ("way", (1, ())), ("way", (1, (1, 0))), ("way", (2, (1, 1))), ("way", (0, (0, 0))), ("way", (1, (1,))),
                ("way", (-1, (-1, -1))), ("speed", (1, (0, 0))), ("speed", (2, ())), ("time", (1, ())),
                ("time", (1, (0, 0))), ("start", (1, (-1, -1))), ("start", (0, ()))):
            with self.subTest(name=name, chain=chain):
                self.changed(False, chains={**way_labelling().chains, name: chain})

    def test_another_right_chain(self):
        self.changed(True, chains={**way_labelling().chains, "way": (3, (3, 3))})
        self.changed(True, chains={**way_labelling().chains, "time": (7, (7, 0))})

    def test_chains_in_another_order(self):
        chains = way_labelling().chains
        self.changed(True, chains={name: chains[name] for name in sorted(chains)})

    def test_a_doubt_left_out(self):
        first, second = way_labelling().doubts
        self.changed(False, doubts=[first])
        self.changed(False, doubts=[second])
        self.changed(False, doubts=[])
        self.changed(True, doubts=[second, first])
        self.changed(True, doubts=[first, second, first])

    def test_a_doubt_that_says_less(self):
        first, second = way_labelling().doubts
        both = (first[1], second[0])
        self.changed(False, doubts=[first, both])
        self.changed(False, doubts=[both])
        self.changed(True, doubts=[both, second, first])

    def test_a_doubt_with_equal_assignments(self):
        first, second = way_labelling().doubts
        self.changed(False, doubts=[first, second, (first[0], first[0])])
        self.changed(False, doubts=[first, second, (first[0], dict(first[0]))])
        self.changed(False, doubts=[(first[0], first[0]), second])
        self.changed(False, doubts=[(first[1], dict(first[1]))])

    def test_a_doubt_that_does_not_fit(self):
        first, second = way_labelling().doubts
        wrong = {**first[1], "time": METRE}
        self.changed(False, doubts=[first, second, (first[0], wrong)])
        self.changed(False, doubts=[first, second, (wrong, first[0])])
        self.changed(False, doubts=[(wrong, first[1]), second])
        self.changed(False, doubts=[first, (second[0], {**second[1], "start": PLAIN})])

    def test_a_doubt_without_the_labels(self):
        system = way_system(start=METRE)
        found = cheapest(system)
        self.shows(True, system, found)
        units = {"way": SECOND, "speed": SECOND, "time": PLAIN, "start": SECOND}
        for doubt in ((units, found.doubts[0][1]), (found.doubts[0][0], units), (units, {**units, "time": METRE})):
            self.shows(False, system, Labelling(found.labelled, found.chains, [doubt]))
            self.shows(False, system, Labelling(found.labelled, found.chains, found.doubts + [doubt]))

    def test_doubts_with_assignments_in_another_order(self):
        doubts = [tuple({name: one[name] for name in sorted(one)} for one in doubt) for doubt in way_labelling().doubts]
        self.changed(True, doubts=doubts)

    def test_no_doubts_are_needed_for_the_empty_set(self):
        system = way_system(way=METRE, time=SECOND)
        found = cheapest(system)
        self.shows(True, system, Labelling((), found.chains, []))
        self.shows(False, system, Labelling(("speed",), {**found.chains, "speed": (1, ())}, []))

    def test_it_reads_the_current_attributes(self):
        found = cheapest(way_system())
        kept = found.chains, found.doubts
        wrong = {name: (1, ()) for name in found.chains}
        for word, thing in (("labelled", ("way",)), ("doubts", []), ("chains", wrong)):
            before = getattr(found, word)
            setattr(found, word, thing)
            self.shows(False, way_system(), found)
            setattr(found, word, before)
            self.shows(True, way_system(), found)
        found.chains["way"] = (1, (0, 0))
        self.shows(False, way_system(), found)
        found.chains["way"] = (2, (2, 2))
        self.shows(True, way_system(), found)
        self.assertIs(found.chains, kept[0])
        found.doubts.pop()
        self.shows(False, way_system(), found)

    def test_another_system(self):
        found = cheapest(way_system())
        self.shows(False, way_system(start=METRE, speed=PLAIN), Labelling((), found.chains, found.doubts))
        dear = System(("m", "s"), {"way": (1, None), "speed": (9, None), "time": (1, None), "start": (9, None)},
                      way_system().formulas)
        self.shows(False, dear, found)

    def test_nothing_is_modified(self):
        found, system = way_labelling(), way_system()
        found.shows(system)
        self.assertTrue(found == way_labelling())
        self.assertTrue(system == way_system())

    def test_against_the_words_of_the_document(self):
        picks = Picks(7)
        seen = {True: 0, False: 0}
        for _ in range(60):
            system = picked_system(picks, 2)
            found = cheapest(system)
            for labelled in sets_by_size(system):
                chains = dict(found.chains)
                for name in system.names:
                    if name in labelled or not is_chain(system, labelled, name, chains[name]):
                        chains[name] = (1, ()) if name in labelled else (1, (0,) * len(system.balances()))
                for doubts in (found.doubts, found.doubts[1:]):
                    other = Labelling(labelled, chains, doubts)
                    expected = shows_by_words(system, other)
                    seen[expected] += 1
                    self.assertIs(other.shows(system), expected)
        self.assertGreater(min(seen.values()), 50)


if __name__ == "__main__":
    unittest.main()
