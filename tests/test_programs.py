"""Point [6]: programs, and which steps fit."""

import unittest

from any_values import ANY_VALUES, BAD_WORDS, HUGE, NO_INTEGERS, NO_ROWS, NO_WORDS, nested
from dealtarrays.errors import DealError, InvalidInputs, NoFit
from dealtarrays.programs import Program

IK = (("i", 2), ("k", 3))
JK = (("j", 4), ("k", 3))
INPUTS = (("a", IK), ("b", JK), ("v", (("k", 3),)), ("n", ()))

# For each kind steps that fit behind INPUTS, and the sides of what they make.
GOOD_STEPS = [
    (("c", "add", "a", "b"), (("i", 2), ("j", 4), ("k", 3))),
    (("c", "add", "b", "a"), (("i", 2), ("j", 4), ("k", 3))),
    (("c", "add", "a", "a"), IK),
    (("c", "add", "n", "n"), ()),
    (("c", "sub", "a", "v"), IK),
    (("c", "sub", "v", "b"), JK),
    (("c", "sub", "n", "a"), IK),
    (("c", "mul", "v", "v"), (("k", 3),)),
    (("c", "mul", "a", "b"), (("i", 2), ("j", 4), ("k", 3))),
    (("c", "mulsum", "a", "b", ("k",)), (("i", 2), ("j", 4))),
    (("c", "mulsum", "a", "b", ()), (("i", 2), ("j", 4), ("k", 3))),
    (("c", "mulsum", "a", "b", ("i",)), JK),
    (("c", "mulsum", "a", "b", ("j",)), IK),
    (("c", "mulsum", "a", "b", ("i", "j", "k")), ()),
    (("c", "mulsum", "a", "a", ("i",)), (("k", 3),)),
    (("c", "mulsum", "n", "n", ()), ()),
    (("c", "sum", "a", ("i",)), (("k", 3),)),
    (("c", "sum", "a", ("k",)), (("i", 2),)),
    (("c", "sum", "a", ("i", "k")), ()),
    (("c", "sum", "a", ()), IK),
    (("c", "sum", "n", ()), ()),
    (("c", "scale", "a", 3), IK),
    (("c", "scale", "a", 0), IK),
    (("c", "scale", "n", -7), ()),
    (("c", "spread", "a", "j", 1), (("i", 2), ("j", 1), ("k", 3))),
    (("c", "spread", "a", "b", 6), (("b", 6), ("i", 2), ("k", 3))),
    (("c", "spread", "n", "z", 6), (("z", 6),)),
    (("c", "turn", "a", "i", "z"), (("k", 3), ("z", 2))),
    (("c", "turn", "a", "k", "h"), (("h", 3), ("i", 2))),
    (("c", "turn", "a", "i", "j"), (("j", 2), ("k", 3))),
    (("c", "turn", "v", "k", "input"), (("input", 3),)),
    (("c", "shift", "a", "i", 1), IK),
    (("c", "shift", "a", "k", 0), IK),
    (("c", "shift", "a", "k", -100), IK),
    (("c", "pick", "a", "i", 0), (("k", 3),)),
    (("c", "pick", "a", "k", 2), (("i", 2),)),
    (("c", "pick", "v", "k", 1), ()),
    (("c", "put", "a", "j", 4, 0), (("i", 2), ("j", 4), ("k", 3))),
    (("c", "put", "a", "z", 4, 3), (("i", 2), ("k", 3), ("z", 4))),
    (("c", "put", "n", "z", 1, 0), (("z", 1),)),
]

# For each kind a step that fits, and at each place behind the kind values with which it would not.
NO_OPERANDS = NO_WORDS + ["c", "d", "x", "i", "k", "input", ("a",), ["a"]]
NO_SIDES_OF_A = NO_WORDS + ["j", "a", "b", "c", "x", "input", ("i",), ["i"]]
NO_NEW_SIDES = NO_WORDS + ["i", "k", ("j",), ["j"]]
NO_SIZES = NO_INTEGERS + [0, 7, -1, -6, 40, HUGE, -HUGE, 10 ** 40, 10 ** 39]
NO_NUMBERS = NO_INTEGERS + [10 ** 40, -10 ** 40, 10 ** 41, HUGE, -HUGE]
NO_NAMES = NO_ROWS + [
    ("x",), ("j",), ("i", "i"), ("k", "i"), ["k", "i"], ("i", "k", "k"), ("i", "x"), ("i", "j"), (None,), (1,), (True,),
    (("i",),), [["i"]], ("i", ["k"]), ("i", None), ("I",), ("",), ("ik",), nested(10, "i"), nested(10, ()), [[]],
    ("i", 3), (3, "i"), ("i", "k", ()), tuple(range(200)), "k", "ik", "i,k",
]
NO_NAMES_OF_BOTH = [names for names in NO_NAMES if names not in [("j",), ("i", "j")]] + [
    ("j", "i"), ("k", "j"), ("j", "j"), ("i", "j", "k", "l"), ("i", "k", "j"), ("a",), ("b",), ("n",),
]
SPOILT = [
    (("c", "add", "a", "b"), [NO_OPERANDS, NO_OPERANDS]),
    (("c", "sub", "a", "b"), [NO_OPERANDS, NO_OPERANDS]),
    (("c", "mul", "a", "b"), [NO_OPERANDS, NO_OPERANDS]),
    (("c", "mulsum", "a", "b", ("k",)), [NO_OPERANDS, NO_OPERANDS, NO_NAMES_OF_BOTH]),
    (("c", "sum", "a", ("i",)), [NO_OPERANDS, NO_NAMES]),
    (("c", "scale", "a", 3), [NO_OPERANDS, NO_NUMBERS]),
    (("c", "spread", "a", "j", 3), [NO_OPERANDS, NO_NEW_SIDES, NO_SIZES]),
    (("c", "turn", "a", "i", "z"), [NO_OPERANDS, NO_SIDES_OF_A, NO_NEW_SIDES]),
    (("c", "shift", "a", "i", 1), [NO_OPERANDS, NO_SIDES_OF_A, NO_NUMBERS]),
    (("c", "pick", "a", "i", 1), [NO_OPERANDS, NO_SIDES_OF_A, NO_INTEGERS + [-1, 2, 3, HUGE, -HUGE]]),
    (("c", "put", "a", "j", 3, 1), [NO_OPERANDS, NO_NEW_SIDES, NO_SIZES + [1], NO_INTEGERS + [-1, 3, 4, HUGE, -HUGE]]),
]

KINDS = ["add", "sub", "mul", "mulsum", "sum", "scale", "spread", "turn", "shift", "pick", "put"]


class ProgramCase(unittest.TestCase):
    def check_no_fit(self, number, steps, inputs=INPUTS):
        with self.assertRaises(NoFit) as caught:
            Program(inputs, steps)
        self.assertIs(type(caught.exception.number), int)
        self.assertEqual(caught.exception.number, number, steps)

    def check_makes(self, step, sides, inputs=INPUTS):
        program = Program(inputs, (step,))
        self.assertEqual(program.sides_of(step[0]), sides, step)
        self.assertEqual(program.steps, (step,))


class TestStepsThatFit(ProgramCase):
    def test_each_kind(self):
        self.assertEqual(sorted(set(step[1] for step, _ in GOOD_STEPS)), sorted(KINDS))
        for step, sides in GOOD_STEPS:
            self.check_makes(step, sides)

    def test_all_of_them_in_one_program(self):
        steps = tuple((f"s{at}",) + step[1:] for at, (step, _) in enumerate(GOOD_STEPS))
        program = Program(INPUTS, steps)
        for at, (_, sides) in enumerate(GOOD_STEPS):
            self.assertEqual(program.sides_of(f"s{at}"), sides)

    def test_no_steps_and_no_inputs(self):
        self.assertEqual(Program((), ()).names(), ())
        self.assertEqual(Program([], []).steps, ())
        self.assertEqual(Program(INPUTS, ()).names(), ("a", "b", "v", "n"))

    def test_steps_use_what_earlier_steps_made(self):
        steps = (("c", "mulsum", "a", "b", ("k",)), ("d", "turn", "c", "i", "z"), ("e", "pick", "d", "j", 3))
        program = Program(INPUTS, steps)
        self.assertEqual(program.sides_of("d"), (("j", 4), ("z", 2)))
        self.assertEqual(program.sides_of("e"), (("z", 2),))

    def test_a_name_may_be_the_word_of_a_kind_or_of_a_side(self):
        for name in KINDS + ["i", "k", "inputs", "inpu", "input1"]:
            self.check_makes((name, "scale", "a", 2), IK)
            self.assertEqual(Program(((name, IK),), (("c", "scale", name, 2),)).names(), (name, "c"))

    def test_each_place_and_size_that_the_rows_allow(self):
        for at in range(-2, 9):
            for kind, step, fits in [
                ("pick", ("c", "pick", "b", "j", at), 0 <= at < 4),
                ("put", ("c", "put", "n", "j", 6, at), 0 <= at < 6),
                ("put", ("c", "put", "n", "j", at, 0), 1 <= at <= 6),
                ("spread", ("c", "spread", "n", "j", at), 1 <= at <= 6),
                ("shift", ("c", "shift", "b", "j", at), True),
                ("scale", ("c", "scale", "b", at), True),
            ]:
                if fits:
                    self.assertEqual(Program(INPUTS, (step,)).steps[0][1], kind)
                else:
                    self.check_no_fit(0, (step,))


class TestIntegersOfManyDigits(ProgramCase):
    def test_forty_digits_fit(self):
        for number in [10 ** 39, 10 ** 40 - 1, -10 ** 39, 1 - 10 ** 40]:
            self.check_makes(("c", "scale", "a", number), IK)
            self.check_makes(("c", "shift", "a", "i", number), IK)

    def test_forty_one_do_not(self):
        for number in [10 ** 40, 10 ** 41 - 1, -10 ** 40, 1 - 10 ** 41, HUGE, -HUGE]:
            for step in [("c", "scale", "a", number), ("c", "shift", "a", "i", number), ("c", "pick", "a", "i", number),
                         ("c", "spread", "a", "j", number), ("c", "put", "a", "j", number, 0),
                         ("c", "put", "a", "j", 2, number), ("c", "put", "a", "j", number, number - 1)]:
                self.check_no_fit(0, (step,))


class TestSpoiltSteps(ProgramCase):
    def test_each_part_of_each_kind(self):
        self.assertEqual([step[1] for step, _ in SPOILT], KINDS)
        for step, spoilt in SPOILT:
            self.assertEqual(Program(INPUTS, (step,)).steps, (step,))
            self.assertEqual(len(spoilt), len(step) - 2)
            for at, values in enumerate(spoilt):
                for value in values:
                    self.check_no_fit(0, (step[:2 + at] + (value,) + step[3 + at:],))

    def test_names_of_steps(self):
        for step, _ in SPOILT:
            for name in NO_WORDS + BAD_WORDS + ["input", "a", "b", "v", "n", ("c",), ["c"]]:
                self.check_no_fit(0, ((name,) + step[1:],))

    def test_a_name_twice(self):
        for step, _ in SPOILT:
            self.check_no_fit(1, (("c", "scale", "a", 2), step))
            self.check_no_fit(2, (("c", "scale", "a", 2), ("d", "scale", "a", 2), step))

    def test_kinds(self):
        for step, _ in SPOILT:
            for kind in ANY_VALUES + ["Add", "addd", "div", "neg", "max", "input", ("add",), ["sum"]]:
                if kind not in KINDS:
                    self.check_no_fit(0, ((step[0], kind) + step[2:],))

    def test_too_short_and_too_long(self):
        for step, _ in SPOILT:
            for length in range(len(step)):
                self.check_no_fit(0, (step[:length],))
                self.check_no_fit(0, [list(step[:length])])
            for more in [None, 1, "b", "k", (), ("k",), []]:
                self.check_no_fit(0, (step + (more,),))

    def test_one_kind_with_what_follows_another(self):
        for step, _ in SPOILT:
            for kind in KINDS:
                other = (step[0], kind) + step[2:]
                both = {kind, step[1]}
                if len(both) == 1 or both <= {"add", "sub", "mul"} or both == {"pick", "shift"}:
                    self.assertEqual(Program(INPUTS, (other,)).steps, (other,))
                else:
                    self.check_no_fit(0, (other,))

    def test_steps_that_are_no_sequences(self):
        for value in ANY_VALUES:
            self.check_no_fit(0, (value,))
            self.check_no_fit(1, [("c", "scale", "a", 2), value])

    def test_steps_is_no_sequence(self):
        for value in NO_ROWS:
            self.check_no_fit(0, value)
        self.check_no_fit(0, "c")

    def test_steps_is_any_value(self):
        for value in ANY_VALUES:
            if value != () and value != []:
                self.check_no_fit(0, value)

    def test_sides_of_one_name_and_two_sizes(self):
        inputs = (("a", IK), ("b", (("j", 2), ("k", 2))), ("v", (("i", 3),)))
        for kind in ("add", "sub", "mul"):
            self.check_no_fit(0, (("c", kind, "a", "b"),), inputs)
            self.check_no_fit(0, (("c", kind, "v", "a"),), inputs)
        for names in [(), ("k",), ("j", "k"), ("i", "j", "k")]:
            self.check_no_fit(0, (("c", "mulsum", "a", "b", names),), inputs)
            self.check_no_fit(0, (("c", "mulsum", "b", "a", names),), inputs)


class TestTheFirstThatDoesNotFit(ProgramCase):
    GOOD = ("scale", "a", 2)

    def test_its_number(self):
        for count in range(12):
            steps = tuple((f"s{at}",) + self.GOOD for at in range(count))
            for bad in [("c", "scale", "x", 2), ("c", "nothing"), None, (), ("input",) + self.GOOD, ("C",) + self.GOOD]:
                self.check_no_fit(count, steps + (bad,))
                self.check_no_fit(count, steps + (bad, ("d",) + self.GOOD))
                self.check_no_fit(count, steps + (bad, bad, None))
                self.check_no_fit(count, list(steps) + [bad, ("d", "scale", "c", 2)])

    def test_a_name_that_a_step_which_does_not_fit_would_make(self):
        self.check_no_fit(0, (("c", "scale", "x", 2), ("d", "scale", "c", 2)))
        self.check_no_fit(1, (("c", "scale", "a", 2), ("c", "scale", "a", 2), ("x", "scale", "y", 2)))

    def test_operands_that_come_later(self):
        self.check_no_fit(0, (("c", "scale", "d", 2), ("d", "scale", "a", 2)))
        self.check_no_fit(1, (("c", "scale", "a", 2), ("d", "add", "a", "e"), ("e", "scale", "a", 2)))
        self.check_no_fit(1, (("c", "scale", "a", 2), ("d", "add", "e", "a"), ("e", "scale", "a", 2)))

    def test_operands_that_are_the_own_name(self):
        self.check_no_fit(0, (("c", "scale", "c", 2),))
        self.check_no_fit(0, (("c", "add", "a", "c"),))
        self.check_no_fit(0, (("c", "add", "c", "a"),))
        self.check_no_fit(0, (("c", "mulsum", "c", "c", ()),))

    def test_the_name_input(self):
        self.check_no_fit(0, (("input", "scale", "a", 2),))
        self.check_no_fit(1, (("c", "scale", "a", 2), ("input", "add", "a", "c")))
        self.check_no_fit(0, (("c", "scale", "input", 2),))


class TestSidesOfWhatIsMade(ProgramCase):
    INPUTS = (
        ("a", (("a", 2), ("b", 2), ("c", 2), ("d", 2))),
        ("e", (("e", 2),)),
        ("f", (("a", 2), ("e", 2), ("f", 2), ("g", 2))),
        ("s", (("p", 6), ("q", 6))),
        ("t", (("r", 6),)),
        ("u", (("r", 5), ("x", 6))),
    )

    def test_too_many_sides(self):
        for step in [("c", "add", "a", "e"), ("c", "sub", "e", "a"), ("c", "mul", "a", "f"),
                     ("c", "spread", "a", "e", 1), ("c", "put", "a", "e", 1, 0), ("c", "mulsum", "a", "e", ()),
                     ("c", "mulsum", "a", "f", ("a", "b"))]:
            self.check_no_fit(0, (step,), self.INPUTS)

    def test_too_many_cells(self):
        for step in [("c", "add", "s", "t"), ("c", "sub", "t", "s"), ("c", "mul", "s", "t"),
                     ("c", "spread", "s", "r", 6), ("c", "put", "s", "r", 6, 5), ("c", "mulsum", "s", "t", ()),
                     ("c", "mulsum", "s", "u", ("r",))]:
            self.check_no_fit(0, (step,), self.INPUTS)

    def test_the_most_sides_and_cells(self):
        self.check_makes(("c", "spread", "s", "r", 5), (("p", 6), ("q", 6), ("r", 5)), self.INPUTS)
        self.check_makes(("c", "put", "s", "a", 5, 4), (("a", 5), ("p", 6), ("q", 6)), self.INPUTS)
        self.check_makes(("c", "add", "a", "a"), self.INPUTS[0][1], self.INPUTS)
        self.check_makes(("c", "turn", "a", "a", "z"), (("b", 2), ("c", 2), ("d", 2), ("z", 2)), self.INPUTS)

    def test_the_sides_of_products_need_not_be_sides(self):
        # Seven sides in the products, then too many cells in the products.
        four = (("b", 2), ("e", 2), ("f", 2), ("g", 2))
        self.check_makes(("c", "mulsum", "a", "f", ("a", "c", "d")), four, self.INPUTS)
        self.check_makes(("c", "mulsum", "a", "f", ("a", "b", "c", "d", "e", "f", "g")), (), self.INPUTS)
        self.check_makes(("c", "mulsum", "a", "e", ("a",)), (("b", 2), ("c", 2), ("d", 2), ("e", 2)), self.INPUTS)
        self.check_makes(("c", "mulsum", "s", "t", ("p",)), (("q", 6), ("r", 6)), self.INPUTS)
        self.check_makes(("c", "mulsum", "u", "s", ("p", "q", "x")), (("r", 5),), self.INPUTS)
        self.check_makes(("c", "mulsum", "s", "u", ("p", "r")), (("q", 6), ("x", 6)), self.INPUTS)

    def test_the_sizes_must_agree_in_products_even_where_they_are_summed_over(self):
        self.check_no_fit(0, (("c", "mulsum", "t", "u", ("r",)),), self.INPUTS)
        self.check_no_fit(0, (("c", "mulsum", "t", "u", ("r", "x")),), self.INPUTS)


class TestInputs(ProgramCase):
    def check_no_inputs(self, inputs, steps=()):
        with self.assertRaises(InvalidInputs) as caught:
            Program(inputs, steps)
        self.assertIs(caught.exception.inputs, inputs)

    def test_none_to_six(self):
        for count in range(7):
            inputs = tuple((f"a{at}", (("i", at + 1),) if at < 6 else ()) for at in range(count))
            self.assertEqual(Program(inputs, ()).inputs, inputs)
        for count in (7, 8, 20):
            self.check_no_inputs(tuple((f"a{at}", ()) for at in range(count)))

    def test_names_need_not_ascend(self):
        self.assertEqual(Program((("b", ()), ("a", ()), ("c", ())), ()).names(), ("b", "a", "c"))

    def test_spoilt_inputs(self):
        for inputs in [(("a", ()), ("a", ())), (("a", IK), ("b", ()), ("a", IK)), (("input", ()),), (("a",),), ((),),
                       (("a", (), ()),), (("a", "i"),), (("a", ("i", 2)),), (((), "a"),), ("ab",), ("a", ()), (IK,),
                       (("a", IK), None), (("a", IK), ("b",)), (("a", IK), ("B", IK)), (("a", IK), ("input", IK))]:
            self.check_no_inputs(inputs)

    def test_names_of_any_kind(self):
        for name in NO_WORDS:
            self.check_no_inputs(((name, ()),))
            self.check_no_inputs((("a", ()), [name, ()]))

    def test_sides_of_any_kind(self):
        for sides in ANY_VALUES + [(("i", 7),), (("k", 2), ("i", 2)), (("i", True),), (("a", 6), ("b", 6), ("c", 6))]:
            if sides != () and sides != []:
                self.check_no_inputs((("a", sides),))
                self.check_no_inputs([["a", ()], ["b", sides]])

    def test_values_of_any_kind(self):
        for value in ANY_VALUES:
            if value != () and value != []:
                self.check_no_inputs(value)
                self.check_no_inputs((value,))
                self.check_no_inputs((("a", ()), value))

    def test_inputs_are_looked_at_before_steps(self):
        for inputs in [None, "", (("input", ()),), (("a", None),), (("a", ()), ("a", ()))]:
            for steps in [None, "", (), (None,), (("c", "scale", "a", 2),), (("c", "scale", "x", 2),), 7]:
                self.check_no_inputs(inputs, steps)

    def test_the_errors_are_under_deal_error(self):
        with self.assertRaises(DealError):
            Program(None, None)
        with self.assertRaises(DealError):
            Program((), None)
