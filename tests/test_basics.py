"""Points [1] to [3]: what is an integer, a word and a row, seen through what the package offers."""

import copy
import unittest

from any_values import BAD_WORDS, GOOD_WORDS, NO_INTEGERS, listed
from dealtarrays.arrays import Array, is_sides, places
from dealtarrays.errors import InvalidCells, InvalidInputs, InvalidSides, NoFit, NoName
from dealtarrays.programs import Program, operands

IK = (("i", 2), ("k", 2))


def is_deep_tuple(value):
    if isinstance(value, tuple):
        return all(is_deep_tuple(part) for part in value)
    return not isinstance(value, list)


class TestIntegersAndWords(unittest.TestCase):
    def test_a_bool_is_no_integer(self):
        self.assertEqual(Array((), (1,)).cells, (1,))
        for value in (True, False):
            with self.assertRaises(InvalidCells):
                Array((), (value,))
        self.assertTrue(is_sides((("i", 1),)))
        self.assertFalse(is_sides((("i", True),)))

    def test_other_values_are_no_integers(self):
        for value in NO_INTEGERS:
            with self.assertRaises(InvalidCells):
                Array((), (value,))
            self.assertFalse(is_sides((("i", value),)), value)

    def test_words(self):
        for word in GOOD_WORDS:
            self.assertTrue(is_sides(((word, 2),)), word)
            self.assertEqual(Program(((word, ()),), ()).names(), (word,))
            self.assertEqual(Program((("b", ()),), ((word, "scale", "b", 2),)).names(), ("b", word))

    def test_what_is_no_word(self):
        for word in BAD_WORDS:
            self.assertFalse(is_sides(((word, 2),)), repr(word))
            with self.assertRaises(InvalidInputs):
                Program(((word, ()),), ())
            with self.assertRaises(NoFit):
                Program((("b", ()),), ((word, "scale", "b", 2),))
            with self.assertRaises(NoFit):
                Program((("b", IK),), (("c", "turn", "b", "i", word),))

    def test_ascending_is_the_order_of_strings(self):
        for words in [("a", "a0"), ("a0", "a1"), ("a9", "aa"), ("a0", "b"), ("ab", "b"), ("a10", "a9")]:
            first, second = words
            self.assertTrue(is_sides(((first, 2), (second, 2))), words)
            self.assertFalse(is_sides(((second, 2), (first, 2))), words)
            program = Program((("a", ((first, 2), (second, 2))),), (("c", "sum", "a", words),))
            self.assertEqual(program.sides_of("c"), ())
            with self.assertRaises(NoFit):
                Program(program.inputs, (("c", "sum", "a", (second, first)),))

    def test_whether_something_is_so_is_told_by_true_or_false(self):
        array = Array(IK, (1, 2, 3, 4))
        answers = [is_sides(IK), is_sides(None), is_sides(()), is_sides("ab"), is_sides([]), is_sides([[]])]
        answers += [array == array, array != array, array == 1, array != 1]
        for answer in answers:
            self.assertIs(type(answer), bool)


class TestArguments(unittest.TestCase):
    INPUTS = (("a", IK), ("b", (("j", 2), ("k", 2))))
    STEPS = (("c", "mulsum", "a", "b", ("k",)), ("d", "sum", "c", ()), ("e", "add", "c", "d"))

    def test_answers_are_tuples_inside_of_one_another_too(self):
        for wrap in (listed, lambda value: value):
            program = Program(wrap(self.INPUTS), wrap(self.STEPS))
            array = Array(wrap(IK), wrap((1, 2, 3, 4)))
            answers = [program.inputs, program.steps, program.names(), array.sides, array.cells, places(wrap(IK))]
            answers += [program.sides_of(name) for name in program.names()]
            answers += [operands(wrap(step)) for step in self.STEPS]
            for answer in answers:
                self.assertIsInstance(answer, tuple)
                self.assertTrue(is_deep_tuple(answer), answer)

    def test_lists_are_as_good_as_tuples(self):
        program = Program(listed(self.INPUTS), listed(self.STEPS))
        self.assertEqual(program.inputs, self.INPUTS)
        self.assertEqual(program.steps, self.STEPS)
        self.assertEqual(Array(listed(IK), [1, 2, 3, 4]), Array(IK, (1, 2, 3, 4)))
        self.assertEqual(Array(IK, [1, 2, 3, 4]).cell([1, 0]), 3)
        self.assertEqual(operands(listed(self.STEPS[0])), ("a", "b"))

    def test_a_string_is_no_sequence(self):
        self.assertFalse(is_sides(""))
        self.assertFalse(is_sides(("i2",)))
        with self.assertRaises(InvalidSides):
            Array("", (1,))
        with self.assertRaises(InvalidCells):
            Array((), "1")
        with self.assertRaises(InvalidInputs):
            Program("", ())
        with self.assertRaises(InvalidInputs):
            Program((("a", ""),), ())
        with self.assertRaises(InvalidInputs):
            Program(("ab",), ())
        with self.assertRaises(NoFit):
            Program((), "")
        with self.assertRaises(NoFit):
            Program((("a", IK),), (("c", "sum", "a", "i"),))
        with self.assertRaises(NoFit):
            Program((("a", IK),), (("c", "sum", "a", ""),))

    def test_arguments_are_not_changed(self):
        inputs, steps, sides, cells = listed(self.INPUTS), listed(self.STEPS), listed(IK), [1, 2, 3, 4]
        before = copy.deepcopy((inputs, steps, sides, cells))
        program = Program(inputs, steps)
        array = Array(sides, cells)
        place = [1, 1]
        array.cell(place)
        places(sides)
        is_sides(sides)
        operands(steps[0])
        program.sides_of("c")
        self.assertEqual((inputs, steps, sides, cells), before)
        self.assertEqual(place, [1, 1])

    def test_later_changes_to_an_argument_have_no_effect(self):
        inputs, steps = listed(self.INPUTS), listed(self.STEPS)
        program = Program(inputs, steps)
        inputs[0][1][0][1] = 5
        inputs[1][0] = "x"
        inputs.append(None)
        steps[0][4].append("q")
        steps[1][0] = "x"
        del steps[2]
        self.assertEqual(program.inputs, self.INPUTS)
        self.assertEqual(program.steps, self.STEPS)
        self.assertEqual(program.names(), ("a", "b", "c", "d", "e"))
        self.assertEqual(program.sides_of("a"), IK)

    def test_arguments_may_be_passed_by_their_names(self):
        array = Array(cells=(1, 2, 3, 4), sides=IK)
        self.assertEqual(array.cell(place=(0, 1)), 2)
        self.assertEqual(len(places(sides=IK)), 4)
        self.assertTrue(is_sides(sides=IK))
        program = Program(steps=self.STEPS, inputs=self.INPUTS)
        self.assertEqual(program.sides_of(name="a"), IK)
        self.assertEqual(operands(step=self.STEPS[0]), ("a", "b"))

    def test_errors_keep_the_very_values(self):
        sides, cells, inputs, name = [None], [None], [["a", None]], ["a"]
        with self.assertRaises(InvalidSides) as caught:
            Array(sides, (1,))
        self.assertIs(caught.exception.sides, sides)
        with self.assertRaises(InvalidCells) as caught:
            Array((), cells)
        self.assertIs(caught.exception.cells, cells)
        with self.assertRaises(InvalidInputs) as caught:
            Program(inputs, ())
        self.assertIs(caught.exception.inputs, inputs)
        with self.assertRaises(NoName) as caught:
            Program((), ()).sides_of(name)
        self.assertIs(caught.exception.name, name)

    def test_a_call_that_raises_changes_nothing(self):
        program = Program(self.INPUTS, self.STEPS)
        for name in ("x", None, ["a"]):
            with self.assertRaises(NoName):
                program.sides_of(name)
        self.assertEqual(program.names(), ("a", "b", "c", "d", "e"))
        self.assertEqual(program.steps, self.STEPS)
        inputs, steps = [["a", listed(IK)]], [["c", "sum", "a", ["i"]], ["d", "sum", "a", ["x"]]]
        before = copy.deepcopy((inputs, steps))
        with self.assertRaises(NoFit):
            Program(inputs, steps)
        self.assertEqual((inputs, steps), before)

    def test_a_program_is_unlike_anything_of_another_kind(self):
        program = Program(self.INPUTS, self.STEPS)
        for other in (None, 1, "a", self.INPUTS, (self.INPUTS, self.STEPS), Array((), (1,))):
            self.assertIs(program == other, False)
            self.assertIs(program != other, True)
        self.assertIs(program == program, True)
        self.assertIs(program != program, False)


class TestSizes(unittest.TestCase):
    def test_largest_arrays(self):
        sides = (("a", 5), ("b", 5), ("c", 4), ("d", 2))
        array = Array(sides, tuple(range(200)))
        self.assertEqual(array.cell((4, 4, 3, 1)), 199)
        self.assertEqual(len(places(sides)), 200)

    def test_cells_of_400_digits_and_more(self):
        for digits in (400, 401, 5000):
            cells = (10 ** digits - 1, 1 - 10 ** digits)
            self.assertEqual(Array((("i", 2),), cells).cells, cells)

    def test_six_inputs_and_a_hundred_and_twenty_steps(self):
        inputs = tuple((f"a{at}", IK) for at in range(6))
        steps = tuple((f"s{at}", "add", f"a{at % 6}", f"s{at - 1}" if at else "a0") for at in range(130))
        program = Program(inputs, steps)
        self.assertEqual(len(program.names()), 136)
        self.assertEqual(program.sides_of("s129"), IK)
