"""Promise [10] and the section fewlabels/notebooks.py, and [1] as far as it concerns them."""

import unittest

from fewlabels.errors import BadName, BadUnit, HasLabel, NothingWritten, NotPossible
from fewlabels.formulas import Formula, Name, Number
from fewlabels.labelling import cheapest
from fewlabels.notebooks import Notebook
from fewlabels.systems import System
from fewlabels.units import Unit
from tests.helpers import NO_NAMES, NO_SYSTEMS, NO_UNITS, PromiseCase, plain_system, way_system
from tests.oracles import Picks, known_by_rank, picked_system, picked_unit, some_fit_exists

A, B, C, D = Name("a"), Name("b"), Name("c"), Name("d")
METRE, SECOND, KILO, PLAIN = Unit.base("m"), Unit.base("s"), Unit.base("kg"), Unit({})
SPEED = METRE // SECOND
SQUARE = Formula(A, B * B)
NOT_OF_THE_BASES = (KILO, METRE * KILO, METRE // KILO, KILO ** -2, Unit.base("ms"), Unit.base("way"))


def quantities_of(system, labels):
    """The dict of costs and labels of a system with further labels."""
    return {name: (system.cost(name), labels.get(name, system.label(name))) for name in system.names}


def labelled(system, labels):
    """The system with further labels."""
    return System(system.bases, quantities_of(system, labels), system.formulas)


def written_in(system, *labels):
    """A notebook of the system, with these pairs of a name and a unit written."""
    notebook = Notebook(system)
    for name, unit in labels:
        notebook.write(name, unit)
    return notebook


class NotebookCase(PromiseCase):

    def holds(self, notebook, start, labels, units):
        """Check all that a notebook tells: the labels, a dict in order, and the units that are known."""
        self.assertEqual(notebook.written, list(labels))
        self.assertIs(notebook.written.__class__, list)
        self.assertIs(notebook.system.__class__, System)
        self.assertTrue(notebook.system == labelled(start, labels))
        for name in start.names:
            self.assertIs(name in notebook, name in units)
            if name in units:
                self.assertIs(notebook[name].__class__, Unit)
                self.assertEqual(notebook[name].powers, units[name].powers)
            else:
                self.assertIsNone(notebook[name])
        self.assertEqual(len(notebook), len(units))
        self.assertIs(bool(notebook), len(units) == len(start.names))


class TestExample(unittest.TestCase):

    def test_example_of_the_document(self):
        way = Formula(Name('way'), Name('speed') * Name('time') + Name('start'))
        quantities = {'way': (2, None), 'speed': (1, None), 'time': (3, None), 'start': (1, None)}
        system = System(('m', 's'), quantities, [way])
        notebook = Notebook(system)
        self.assertIsNone(notebook.write('start', Unit.base('m')))
        self.assertIsNone(notebook.write('time', Unit.base('s')))
        found = [notebook['speed'] == Unit({'m': 1, 's': -1}), 'way' in notebook, len(notebook), bool(notebook),
                 notebook.allows('way', Unit.base('s')), notebook.written]
        self.assertEqual(found, [True, True, 4, True, False, ['start', 'time']])
        for at in (0, 1, 3, 4):
            self.assertIs(found[at].__class__, bool)

    def test_methods_stand_in_the_class_itself(self):
        for word in ("__init__", "write", "undo", "allows", "__contains__", "__getitem__", "__len__", "__bool__",
                     "written", "system"):
            with self.subTest(word=word):
                self.assertIn(word, vars(Notebook))
        self.assertEqual(Notebook.__module__, "fewlabels.notebooks")


class TestNew(NotebookCase):

    def test_without_labels(self):
        self.holds(Notebook(way_system()), way_system(), {}, {})

    def test_with_labels(self):
        system = way_system(start=METRE)
        self.holds(Notebook(system), system, {}, {"way": METRE, "start": METRE})
        system = way_system(start=METRE, time=SECOND)
        self.holds(Notebook(system), system, {},
                   {"way": METRE, "speed": SPEED, "time": SECOND, "start": METRE})

    def test_units_that_follow_without_any_label(self):
        system = plain_system("abc", Formula(A, Number(5)), Formula(B ** 2, A))
        self.holds(Notebook(system), system, {}, {"a": PLAIN, "b": PLAIN})
        system = plain_system("a", Formula(A * A, A))
        self.holds(Notebook(system), system, {}, {"a": PLAIN})

    def test_not_a_system(self):
        for thing in NO_SYSTEMS:
            with self.subTest(thing=thing):
                self.refuses_system(None, Notebook, thing)
        self.refuses_system(None, Notebook, Notebook(way_system()))


class TestWriting(NotebookCase):

    def test_one_by_one(self):
        notebook = Notebook(way_system())
        notebook.write("time", SECOND)
        self.holds(notebook, way_system(), {"time": SECOND}, {"time": SECOND})
        notebook.write("way", METRE)
        self.holds(notebook, way_system(), {"time": SECOND, "way": METRE},
                   {"way": METRE, "speed": SPEED, "time": SECOND, "start": METRE})

    def test_every_order_of_writing(self):
        for first, second in (("way", "speed"), ("speed", "way"), ("time", "start"), ("start", "time")):
            units = {"way": METRE, "speed": SPEED, "time": SECOND, "start": METRE}
            notebook = written_in(way_system(), (first, units[first]), (second, units[second]))
            self.holds(notebook, way_system(), {first: units[first], second: units[second]}, units)

    def test_labels_that_follow_already(self):
        system = way_system(start=METRE)
        notebook = Notebook(system)
        known = {"way": METRE, "start": METRE}
        for unit in (SECOND, PLAIN, METRE ** 2, METRE ** -1, METRE * SECOND):
            self.assertIs(notebook.allows("way", unit), False)
            self.refuses(NotPossible, notebook.write, "way", unit)
        self.holds(notebook, system, {}, known)
        self.assertIs(notebook.allows("way", METRE), True)
        notebook.write("way", Unit({"m": 1, "s": 0}))
        self.holds(notebook, system, {"way": METRE}, known)

    def test_all_labels(self):
        units = {"speed": SPEED, "start": METRE, "time": SECOND, "way": METRE}
        notebook = written_in(way_system(), *units.items())
        self.holds(notebook, way_system(), units, units)
        for name in units:
            for unit in (units[name], PLAIN, KILO):
                self.refuses(BadUnit if unit == KILO else HasLabel, notebook.write, name, unit)
        self.holds(notebook, way_system(), units, units)

    def test_a_plain_label_is_a_label(self):
        notebook = written_in(way_system(), ("time", PLAIN))
        self.holds(notebook, way_system(), {"time": PLAIN}, {"time": PLAIN})
        self.refuses(HasLabel, notebook.write, "time", PLAIN)
        self.refuses(HasLabel, Notebook(way_system(way=PLAIN)).write, "way", PLAIN)

    def test_half_an_integer(self):
        system = System(("m", "s"), {"a": (1, None), "b": (2, None)}, [SQUARE])
        notebook = Notebook(system)
        for unit in (METRE, METRE ** -3, METRE ** 2 * SECOND, METRE ** 2 // SECOND ** 5):
            self.assertIs(notebook.allows("a", unit), False)
            self.refuses(NotPossible, notebook.write, "a", unit)
        self.holds(notebook, system, {}, {})
        for unit in (METRE, PLAIN, SPEED ** 3):
            self.assertIs(notebook.allows("a", unit * unit), True)
            notebook.write("a", unit * unit)
            self.holds(notebook, system, {"a": unit * unit}, {"a": unit * unit, "b": unit})
            notebook.undo()

    def test_units_that_follow_with_k_above_1(self):
        system = plain_system("abcd", Formula(A, B ** 3), Formula(C * C, D ** 3))
        notebook = written_in(system, ("a", METRE ** -6), ("d", METRE ** 2))
        self.holds(notebook, system, {"a": METRE ** -6, "d": METRE ** 2},
                   {"a": METRE ** -6, "b": METRE ** -2, "c": METRE ** 3, "d": METRE ** 2})
        self.refuses(NotPossible, written_in(system, ("a", PLAIN)).write, "d", METRE)
        self.refuses(NotPossible, Notebook(system).write, "c", METRE ** 2)

    def test_labels_that_are_possible_alone_but_not_together(self):
        system = plain_system("abc", Formula(A * B, C ** 2))
        notebook = written_in(system, ("a", METRE))
        self.assertIs(notebook.allows("b", PLAIN), False)
        self.refuses(NotPossible, notebook.write, "b", PLAIN)
        self.holds(notebook, system, {"a": METRE}, {"a": METRE})
        notebook.write("b", METRE)
        self.holds(notebook, system, {"a": METRE, "b": METRE}, {"a": METRE, "b": METRE, "c": METRE})
        notebook.undo()
        notebook.undo()
        self.assertIs(notebook.allows("b", PLAIN), True)

    def test_exponents_of_any_size(self):
        notebook = written_in(plain_system("ab", SQUARE), ("b", METRE ** 10 ** 30))
        self.assertEqual(notebook["a"].powers, {"m": 2 * 10 ** 30})

    def test_a_cheapest_labelling_written_down(self):
        picks = Picks(21)
        for _ in range(40):
            system = picked_system(picks, 2)
            found = cheapest(system)
            notebook = Notebook(system)
            for name in found.labelled:
                self.assertIs(bool(notebook), False)
                notebook.write(name, PLAIN if notebook.allows(name, PLAIN) else self.possible_unit(notebook, name))
            self.assertIs(bool(notebook), True)

    def possible_unit(self, notebook, name):
        """Some unit with which the quantity can be labelled."""
        exponents = sorted(range(-9, 10), key=abs)
        units = [Unit({"m": first, "s": second}) for first in exponents for second in exponents]
        units = [unit for unit in units if all(base in notebook.system.bases for base in unit.powers)]
        return next(unit for unit in units if notebook.allows(name, unit))


class TestRefused(NotebookCase):

    def test_not_a_quantity(self):
        notebook = written_in(way_system(), ("way", METRE))
        for name in NO_NAMES + ("m", "s", "wa", "ways", "Way", "ay", METRE, Name("way")):
            with self.subTest(name=name):
                self.refuses(BadName, notebook.write, name, METRE)
                self.refuses(BadName, notebook.write, name, None)
                self.refuses(BadName, notebook.allows, name, METRE)
                self.refuses(BadName, notebook.allows, name, KILO)
                self.refuses(BadName, lambda: name in notebook)
                self.refuses(BadName, lambda: notebook[name])
        self.holds(notebook, way_system(), {"way": METRE}, {"way": METRE, "start": METRE})

    def test_not_a_unit_of_the_base_units(self):
        notebook = written_in(way_system(time=SECOND), ("way", METRE))
        for unit in NO_UNITS + NOT_OF_THE_BASES + ({"m": True}, {"m": 1}, "m s", ("m", 1)):
            for name in ("way", "time", "speed", "start"):
                with self.subTest(unit=unit, name=name):
                    self.refuses(BadUnit, notebook.write, name, unit)
                    self.refuses(BadUnit, notebook.allows, name, unit)
        self.assertEqual(notebook.written, ["way"])

    def test_booleans_are_no_exponents_of_a_label(self):
        notebook = Notebook(way_system())
        for boolean in (True, False):
            self.refuses(BadUnit, lambda: notebook.write("way", Unit({"m": boolean})))
            self.refuses(BadUnit, notebook.write, "way", boolean)
        self.holds(notebook, way_system(), {}, {})

    def test_a_label_in_the_system(self):
        system = way_system(start=METRE)
        notebook = Notebook(system)
        for unit in (METRE, SECOND, PLAIN):
            self.refuses(HasLabel, notebook.write, "start", unit)
            self.assertIs(notebook.allows("start", unit), False)
        self.holds(notebook, system, {}, {"way": METRE, "start": METRE})

    def test_a_label_in_the_notebook(self):
        notebook = written_in(way_system(), ("time", SECOND))
        for unit in (METRE, SECOND, PLAIN):
            self.refuses(HasLabel, notebook.write, "time", unit)
            self.assertIs(notebook.allows("time", unit), False)
        self.holds(notebook, way_system(), {"time": SECOND}, {"time": SECOND})
        notebook.undo()
        self.assertIs(notebook.allows("time", METRE), True)
        notebook.write("time", METRE)
        self.holds(notebook, way_system(), {"time": METRE}, {"time": METRE})

    def test_the_error_that_is_documented_first(self):
        notebook = written_in(way_system(start=METRE), ("way", METRE))
        self.refuses(BadName, notebook.write, "x", "m")
        self.refuses(BadName, notebook.write, None, KILO)
        self.refuses(BadUnit, notebook.write, "way", KILO)
        self.refuses(BadUnit, notebook.write, "start", METRE * KILO)
        self.refuses(HasLabel, notebook.write, "way", SECOND)
        self.refuses(HasLabel, notebook.write, "start", SECOND)
        self.refuses(NotPossible, Notebook(way_system(start=METRE)).write, "way", SECOND)
        self.refuses(BadUnit, Notebook(way_system(start=METRE)).write, "way", KILO)


class TestUndo(NotebookCase):

    def test_nothing_written(self):
        for system in (way_system(), way_system(start=METRE, time=SECOND)):
            notebook = Notebook(system)
            for _ in range(3):
                self.refuses(NothingWritten, notebook.undo)
            self.assertTrue(notebook.system == system)

    def test_step_by_step(self):
        start = way_system(start=METRE)
        notebook = written_in(start, ("way", METRE), ("time", SECOND), ("speed", SPEED))
        all_units = {"way": METRE, "speed": SPEED, "time": SECOND, "start": METRE}
        few_units = {"way": METRE, "start": METRE}
        self.holds(notebook, start, {"way": METRE, "time": SECOND, "speed": SPEED}, all_units)
        self.assertEqual(notebook.undo(), "speed")
        self.holds(notebook, start, {"way": METRE, "time": SECOND}, all_units)
        self.assertEqual(notebook.undo(), "time")
        self.holds(notebook, start, {"way": METRE}, few_units)
        self.assertEqual(notebook.undo(), "way")
        self.holds(notebook, start, {}, few_units)
        self.refuses(NothingWritten, notebook.undo)
        self.holds(notebook, start, {}, few_units)

    def test_writing_again(self):
        notebook = written_in(way_system(), ("way", METRE), ("time", SECOND))
        self.assertEqual(notebook.undo(), "time")
        notebook.write("speed", METRE)
        self.holds(notebook, way_system(), {"way": METRE, "speed": METRE},
                   {"way": METRE, "speed": METRE, "time": PLAIN, "start": METRE})
        self.assertEqual([notebook.undo(), notebook.undo()], ["speed", "way"])
        self.holds(notebook, way_system(), {}, {})

    def test_after_a_call_that_was_refused(self):
        notebook = written_in(way_system(), ("way", METRE))
        for name, unit in (("x", METRE), ("start", KILO), ("way", METRE), ("start", SECOND)):
            with self.assertRaises(ValueError):
                notebook.write(name, unit)
        self.holds(notebook, way_system(), {"way": METRE}, {"way": METRE, "start": METRE})
        self.assertEqual(notebook.undo(), "way")
        self.refuses(NothingWritten, notebook.undo)
        self.holds(notebook, way_system(), {}, {})


class TestNothingShared(NotebookCase):

    def test_allows_changes_nothing(self):
        notebook = written_in(way_system(), ("way", METRE))
        for name in ("way", "speed", "time", "start"):
            for unit in (METRE, SECOND, PLAIN):
                notebook.allows(name, unit)
        self.holds(notebook, way_system(), {"way": METRE}, {"way": METRE, "start": METRE})

    def test_two_notebooks_of_one_system(self):
        system = way_system()
        one, other = Notebook(system), Notebook(system)
        one.write("way", METRE)
        self.holds(other, way_system(), {}, {})
        other.write("way", SECOND)
        other.write("time", PLAIN)
        self.holds(one, way_system(), {"way": METRE}, {"way": METRE, "start": METRE})
        self.assertEqual(one.undo(), "way")
        self.holds(other, way_system(), {"way": SECOND, "time": PLAIN},
                   {"way": SECOND, "speed": SECOND, "time": PLAIN, "start": SECOND})
        self.assertTrue(system == way_system())

    def test_a_notebook_of_the_system_of_another_one(self):
        one = written_in(way_system(), ("way", METRE))
        other = Notebook(one.system)
        self.refuses(NothingWritten, other.undo)
        self.refuses(HasLabel, other.write, "way", METRE)
        other.write("time", SECOND)
        self.holds(one, way_system(), {"way": METRE}, {"way": METRE, "start": METRE})
        one.undo()
        self.assertEqual([other.written, len(other)], [["time"], 4])

    def test_the_system_is_neither_modified_nor_kept(self):
        system = way_system(start=METRE)
        notebook = written_in(system, ("time", SECOND))
        self.assertTrue(system == way_system(start=METRE))
        self.assertIsNone(system.label("time"))
        self.assertIsNot(Notebook(system).system, system)
        notebook.undo()
        self.assertTrue(notebook.system == system)

    def test_results_are_new(self):
        notebook = written_in(way_system(), ("way", METRE), ("time", SECOND))
        written, system = notebook.written, notebook.system
        written.append("speed")
        notebook.written.clear()
        system.names.append("x")
        system.formulas.clear()
        system.balances()[0].clear()
        notebook["speed"].powers.clear()
        units = {"way": METRE, "speed": SPEED, "time": SECOND, "start": METRE}
        self.holds(notebook, way_system(), {"way": METRE, "time": SECOND}, units)
        self.assertIsNot(notebook.written, notebook.written)
        self.assertIsNot(notebook.system.names, notebook.system.names)
        self.assertIsNot(notebook.system.formulas, notebook.system.formulas)

    def test_a_system_that_was_returned_does_not_change(self):
        notebook = Notebook(way_system())
        before = notebook.system
        notebook.write("way", METRE)
        between = notebook.system
        notebook.write("time", SECOND)
        notebook.undo()
        notebook.undo()
        self.assertTrue(before == way_system())
        self.assertTrue(between == way_system(way=METRE))

    def test_a_notebook_is_not_iterated_over(self):
        with self.assertRaises(TypeError):
            iter(Notebook(way_system()))

    def test_properties_cannot_be_assigned(self):
        notebook = Notebook(way_system())
        for word in ("written", "system"):
            with self.subTest(word=word), self.assertRaises(AttributeError):
                setattr(notebook, word, [])


class TestAgainstOracles(NotebookCase):

    def test_what_is_possible_and_what_is_known(self):
        picks = Picks(22)
        seen = {HasLabel: 0, NotPossible: 0, None: 0, "undo": 0}
        for _ in range(80):
            start = picked_system(picks, 2)
            notebook = Notebook(start)
            labels = {}
            for _ in range(6):
                name, unit = picks.one_of(start.names), picked_unit(picks, start.bases, 1)
                error = self.expected(start, labels, name, unit)
                self.assertIs(notebook.allows(name, unit), error is None)
                seen[error] += 1
                if error is not None:
                    self.refuses(error, notebook.write, name, unit)
                else:
                    notebook.write(name, unit)
                    labels[name] = unit
                if labels and not picks.below(4):
                    seen["undo"] += 1
                    self.assertEqual(notebook.undo(), labels.popitem()[0])
                self.tells(notebook, start, labels)
        self.assertGreater(min(seen.values()), 50)

    def expected(self, start, labels, name, unit):
        """The error with which a label has to be refused, or None."""
        if name in labels or start.label(name) is not None:
            return HasLabel
        quantities = quantities_of(start, {**labels, name: unit})
        return None if some_fit_exists(start.bases, quantities, start.formulas) else NotPossible

    def tells(self, notebook, start, labels):
        """Check what a notebook tells, with the quantities that are known by rank, and their units by a fit."""
        system = labelled(start, labels)
        units = {name: notebook[name] for name in known_by_rank(system, ())}
        for name, unit in units.items():
            self.assertIn(system.label(name), (None, unit))
        self.assertTrue(some_fit_exists(system.bases, quantities_of(system, units), system.formulas))
        self.holds(notebook, start, labels, units)


if __name__ == "__main__":
    unittest.main()
