"""Points [30], [31] and [32]: programs tidied, for each place of a further side, and split."""

import time
import unittest

from any_programs import Dice, any_array, any_arrays, any_program
from any_values import ANY_VALUES, listed
from dealtarrays.arrays import Array, is_sides
from dealtarrays.errors import InvalidSides, NoFit, NoName, TooMany
from dealtarrays.plain import run_plain
from dealtarrays.programs import Program, operands
from dealtarrays.tidy import for_each, split_program, tidied

I2 = (("i", 2),)
IK = (("i", 2), ("k", 3))
INPUTS = (("a", IK), ("b", IK))


def known_of(program, arrays):
    return dict(zip(program.names(), run_plain(program, arrays)))


def any_repeats(number):
    """A program with steps that are like others, some of them by way of their operands."""
    dice = Dice(number)
    program = any_program(number, inputs=2, steps=4)
    steps, like = list(program.steps), {name: [name] for name in program.names()}
    for at in range(6):
        if not program.steps:
            break
        step = dice.one_of(program.steps)
        used = [dice.one_of(like[name]) for name in operands(step)]
        if dice.below(2) and step[1] in ("add", "mul", "sub", "mulsum"):
            used.reverse()
        name = f"r{at}"
        more = (name, step[1], *used, *step[2 + len(used):])
        steps.append(more)
        if step[1] != "sub" or used == used[::-1] or used[0] in like[step[2]]:
            like[step[0]].append(name)
    return Program(program.inputs, steps)


def tidied_model(program, wanted):
    """The steps that stay, and the names that are found, by what each array is made of, all the way down."""
    made = {name: ("input", name) for name, _ in program.inputs}
    for step in program.steps:
        used = [made[name] for name in operands(step)]
        if step[1] in ("add", "mul"):
            used = sorted(used, key=repr)
        made[step[0]] = (step[1], *used, step[2 + len(used):])
    needed = set(wanted)
    for step in program.steps[::-1]:
        if step[0] in needed:
            needed.update(operands(step))
    stands, steps = {repr(made[name]): name for name, _ in program.inputs}, []
    for step in program.steps:
        if step[0] in needed and repr(made[step[0]]) not in stands:
            stands[repr(made[step[0]])] = step[0]
            used = operands(step)
            steps.append((*step[:2], *[stands[repr(made[name])] for name in used], *step[2 + len(used):]))
    return tuple(steps), tuple(stands[repr(made[name])] for name in wanted)


class TestTidied(unittest.TestCase):
    def check(self, program, wanted, number):
        other, found = tidied(program, wanted)
        self.assertEqual((other.steps, found), tidied_model(program, wanted), number)
        self.assertEqual(other.inputs, program.inputs)
        arrays = any_arrays(number, program)
        before, after = known_of(program, arrays), known_of(other, arrays)
        for name, stand in zip(wanted, found):
            self.assertEqual(before[name], after[stand])
        again, same = tidied(other, found)
        self.assertEqual((again.inputs, again.steps, same), (other.inputs, other.steps, found))
        return len(program.steps) - len(other.steps)

    def test_drawn_programs(self):
        less = 0
        for number in range(120):
            dice = Dice(number)
            program = any_repeats(number)
            names = list(program.names())
            for wanted in [names, names[::-1], names[-1:], [], [dice.one_of(names) for _ in range(5)], names + names]:
                self.check(program, wanted, number)
            less += self.check(program, names, number) > 1
        self.assertGreater(less, 60)

    def tidy(self, steps, wanted):
        other, found = tidied(Program(INPUTS, steps), wanted)
        self.check(Program(INPUTS, steps), wanted, 1)
        return other.steps, found

    def test_what_is_not_needed(self):
        steps = (("c", "add", "a", "b"), ("d", "mul", "a", "b"), ("e", "scale", "c", 2), ("f", "scale", "d", 2))
        self.assertEqual(self.tidy(steps, ("e",)), ((steps[0], steps[2]), ("e",)))
        self.assertEqual(self.tidy(steps, ("d",)), ((steps[1],), ("d",)))
        self.assertEqual(self.tidy(steps, ("d", "c")), ((steps[0], steps[1]), ("d", "c")))
        self.assertEqual(self.tidy(steps, ("b", "b", "a")), ((), ("b", "b", "a")))
        self.assertEqual(self.tidy(steps, ()), ((), ()))
        self.assertEqual(self.tidy((), ("a",)), ((), ("a",)))

    def test_steps_that_are_alike(self):
        steps = (("c", "sum", "a", ("i",)), ("d", "sum", "a", ("i",)), ("e", "sum", "a", ("k",)),
                 ("f", "add", "c", "d"))
        self.assertEqual(self.tidy(steps, ("f", "d", "c", "e")),
                         ((steps[0], steps[2], ("f", "add", "c", "c")), ("f", "c", "c", "e")))
        self.assertEqual(self.tidy(steps, ("d",)), ((steps[1],), ("d",)))

    def test_alike_by_their_operands(self):
        steps = (("c", "scale", "a", 2), ("d", "scale", "a", 2), ("e", "sub", "c", "b"), ("f", "sub", "d", "b"),
                 ("g", "mul", "f", "e"), ("h", "mul", "e", "e"))
        self.assertEqual(self.tidy(steps, ("h", "g")), ((steps[0], steps[2], ("g", "mul", "e", "e")), ("g", "g")))

    def test_operands_exchanged(self):
        for kind, alike in [("add", True), ("mul", True), ("sub", False)]:
            steps = (("c", kind, "b", "a"), ("d", kind, "a", "b"))
            kept = steps[:1] if alike else steps
            self.assertEqual(self.tidy(steps, ("d", "c")), (kept, ("c", "c") if alike else ("d", "c")))
        steps = (("c", "mulsum", "a", "b", ("i",)), ("d", "mulsum", "b", "a", ("i",)),
                 ("e", "mulsum", "a", "b", ("i",)))
        self.assertEqual(self.tidy(steps, ("c", "d", "e")), (steps[:2], ("c", "d", "c")))

    def test_steps_of_other_kinds_or_numbers_are_not_alike(self):
        steps = (("c", "add", "a", "b"), ("d", "mul", "a", "b"), ("e", "scale", "a", 2), ("f", "scale", "a", 3),
                 ("g", "shift", "a", "i", 1), ("h", "shift", "a", "i", 3), ("m", "pick", "a", "i", 0),
                 ("n", "pick", "a", "i", 1), ("o", "sum", "a", ()), ("p", "mulsum", "a", "b", ()),
                 ("q", "put", "a", "j", 2, 0), ("r", "put", "a", "j", 2, 1), ("s", "spread", "a", "j", 2),
                 ("t", "turn", "a", "i", "x"), ("u", "turn", "a", "i", "y"))
        names = tuple(step[0] for step in steps)
        self.assertEqual(self.tidy(steps, names), (steps, names))

    def test_the_first_name_that_is_none(self):
        program = Program(INPUTS, (("c", "add", "a", "b"),))
        for name in ["d", "i", "", "input", *ANY_VALUES]:
            if name == "a":
                continue
            for wanted in [(name,), ("c", name, "zz"), ["a", "a", name]]:
                for call in (lambda: tidied(program, wanted), lambda: split_program(program, 1, wanted)):
                    with self.assertRaises(NoName) as caught:
                        call()
                    self.assertIs(caught.exception.name, name)

    def test_arguments(self):
        program, wanted = Program(INPUTS, (("c", "add", "a", "b"), ("d", "add", "b", "a"))), ["d", "a", "c"]
        found = tidied(wanted=wanted, program=program)
        self.assertEqual(([type(part) for part in found], type(found)), ([Program, tuple], tuple))
        self.assertEqual((found[1], wanted), (("c", "a", "c"), ["d", "a", "c"]))
        wanted.clear()
        self.assertEqual(found[1], ("c", "a", "c"))
        self.assertEqual(len(program.steps), 2)

    def test_many_steps_in_good_time(self):
        start = time.process_time()
        steps = [("s0", "add", "a", "b")] + [(f"s{at}", "add", f"s{at - 1}", f"s{at // 2}") for at in range(1, 120)]
        other, found = tidied(Program(INPUTS, steps), ("s119", "s60"))
        self.assertEqual((len(other.steps), found), (120, ("s119", "s60")))
        self.assertLess(time.process_time() - start, 5)


class TestForEach(unittest.TestCase):
    def fits(self, program, side, size, names):
        """Whether the inputs and all steps have sides if these inputs have one more."""
        try:
            inputs = [(name, sorted([*sides, (side, size)]) if name in names else sides)
                      for name, sides in program.inputs]
            return all(is_sides(sides) for _, sides in inputs) and Program(inputs, program.steps)
        except NoFit:
            return False

    def hangs(self, program, names):
        found = set(names)
        for step in program.steps:
            if any(name in found for name in operands(step)):
                found.add(step[0])
        return found

    def check(self, number, program, side, size, names):
        other = for_each(program, side, size, names)
        self.assertEqual(other.steps, program.steps)
        self.assertEqual([name for name, _ in other.inputs], [name for name, _ in program.inputs])
        dice = Dice(number + 31)
        arrays = [any_array(dice, sides) for _, sides in other.inputs]
        made, hanging = known_of(other, arrays), self.hangs(program, names)
        for place in range(size):
            picked = [pick(array, side, place) for array in arrays]
            for name, array in known_of(program, picked).items():
                self.assertEqual(side in dict(made[name].sides), name in hanging)
                self.assertEqual(pick(made[name], side, place), array)

    def test_drawn_programs(self):
        checked = 0
        for number in range(150):
            program = any_program(number, inputs=3, steps=5, most_cells=60, most_sides=3)
            names = [name for name, _ in program.inputs]
            dice = Dice(number)
            side, size = dice.one_of(["a", "hh", "i0", "jj", "l", "z"]), 1 + dice.below(3)
            for some in [(), names, names[::-1], [dice.one_of(names)]]:
                if self.fits(program, side, size, some):
                    self.check(number, program, side, size, some)
                    checked += 1
        self.assertGreater(checked, 300)

    def test_where_the_side_comes(self):
        program = Program((("a", (("d", 2), ("m", 3))), ("n", ())), (("c", "mul", "a", "n"), ("s", "sum", "n", ())))
        for side, sides in [("b", (("b", 4), ("d", 2), ("m", 3))), ("f", (("d", 2), ("f", 4), ("m", 3))),
                            ("z", (("d", 2), ("m", 3), ("z", 4)))]:
            other = for_each(program, side, 4, ("a",))
            self.assertEqual(other.inputs, (("a", sides), ("n", ())))
            self.assertEqual([other.sides_of(name) for name in "cs"], [sides, ()])
            other = for_each(program, side, 4, ["n"])
            self.assertEqual(other.inputs, (("a", (("d", 2), ("m", 3))), ("n", ((side, 4),))))
            self.assertEqual([other.sides_of(name) for name in "cs"], [sides, ((side, 4),)])
            other = for_each(program, side, 4, ("n", "a"))
            self.assertEqual(other.inputs, (("a", sides), ("n", ((side, 4),))))

    def test_no_names(self):
        program = Program(INPUTS, (("c", "add", "a", "b"),))
        for names in ((), []):
            other = for_each(program, "z", 6, names)
            self.assertEqual((other.inputs, other.steps), (program.inputs, program.steps))

    def test_the_first_name_that_is_none(self):
        program = Program((("a", (("h", 2), ("i", 2), ("k", 2), ("l", 2))), ("b", IK)), (("c", "scale", "b", 2),))
        for name in ["c", "d", "i", "", *ANY_VALUES]:
            if name == "a":
                continue
            for names in [(name,), ["b", name, "q"], ("a", name)]:
                with self.assertRaises(NoName) as caught:
                    for_each(program, "z", 2, names)
                self.assertIs(caught.exception.name, name)

    def test_the_first_sides_that_are_none(self):
        many = (("h", 2), ("i", 2), ("k", 2), ("l", 2))
        large = (("h", 6), ("k", 6))
        program = Program((("a", many), ("b", large), ("c", ())), (("d", "mul", "a", "c"),))
        for size, names, expected in [
            (2, ("a",), (*many, ("z", 2))), (2, ("c", "a", "b"), (*many, ("z", 2))),
            (6, ("b", "a"), (*large, ("z", 6))), (6, ["a", "b"], (*many, ("z", 6))),
            (7, ("c", "b"), (("z", 7),)), (0, ("c",), (("z", 0),)), (-1, ("b",), (*large, ("z", -1))),
        ]:
            with self.assertRaises(InvalidSides) as caught:
                for_each(program, "z", size, names)
            self.assertEqual(caught.exception.sides, expected)
            self.assertIs(type(caught.exception.sides), tuple)
            self.assertTrue(all(type(pair) is tuple for pair in caught.exception.sides))
        with self.assertRaises(InvalidSides) as caught:
            for_each(program, "b", 2, ("a",))
        self.assertEqual(caught.exception.sides, (("b", 2), *many))
        with self.assertRaises(InvalidSides) as caught:
            for_each(program, "j", 6, ("b",))
        self.assertEqual(caught.exception.sides, (("h", 6), ("j", 6), ("k", 6)))
        self.assertEqual(for_each(program, "z", 5, ("b",)).sides_of("b"), (*large, ("z", 5)))

    def test_the_first_step_that_does_not_fit(self):
        inputs = (("a", (("h", 2), ("i", 2))), ("b", (("k", 2), ("l", 2))), ("m", (("p", 6), ("q", 6))))
        steps = (("c", "scale", "a", 2), ("d", "sum", "m", ("p",)), ("e", "mul", "a", "b"),
                 ("f", "spread", "m", "r", 4))
        program = Program(inputs, steps)
        for size, names, number in [(2, ("a",), 2), (2, ("b",), 2), (2, ("m",), 3), (2, ("m", "a"), 2)]:
            with self.assertRaises(NoFit) as caught:
                for_each(program, "z", size, names)
            self.assertEqual(caught.exception.number, number)

    def test_the_order_of_the_errors(self):
        program = Program((("a", (("h", 2), ("i", 2), ("k", 2), ("l", 2))), ("b", ())), (("c", "mul", "a", "b"),))
        with self.assertRaises(NoName):
            for_each(program, "z", 2, ("a", "c"))
        with self.assertRaises(InvalidSides):
            for_each(program, "z", 2, ("b", "a"))
        with self.assertRaises(NoFit) as caught:
            for_each(program, "z", 2, ("b",))
        self.assertEqual(caught.exception.number, 0)

    def test_arguments(self):
        program, names = Program(INPUTS, (("c", "add", "a", "b"),)), ["b"]
        other = for_each(names=names, size=2, side="z", program=program)
        self.assertIs(type(other), Program)
        names.clear()
        self.assertEqual(other.sides_of("b"), (*IK, ("z", 2)))
        self.assertEqual(program.inputs, INPUTS)


def pick(array, side, place):
    """The cells at this place of the side, or the array itself if it has not this side."""
    if side not in dict(array.sides):
        return array
    program = Program((("a", array.sides),), (("b", "pick", "a", side, place),))
    return run_plain(program, (array,))[1]


class TestSplit(unittest.TestCase):
    def check(self, program, number, wanted, at):
        first, second = split_program(program, number, wanted)
        self.assertEqual((first.inputs, first.steps), (program.inputs, program.steps[:number]))
        self.assertEqual(second.steps, program.steps[number:])
        used = {name for step in second.steps for name in operands(step)} | set(wanted)
        self.assertEqual(second.inputs, tuple((name, program.sides_of(name)) for name in first.names() if name in used))
        known = known_of(first, any_arrays(at, program))
        later = known_of(second, [known[name] for name, _ in second.inputs])
        plain = known_of(program, any_arrays(at, program))
        for name in [*wanted, *[step[0] for step in second.steps]]:
            self.assertEqual(later[name], plain[name])

    def test_drawn_programs(self):
        checked = many = 0
        for at in range(80):
            program, dice = any_program(at, inputs=4, steps=6), Dice(at)
            names = program.names()
            for number in range(len(program.steps) + 1):
                for wanted in [(), names[-1:], dice.some_of(names), dice.some_of(names)[::-1], names]:
                    later = {name for step in program.steps[number:] for name in operands(step)} | set(wanted)
                    passed = [name for name in names[:len(program.inputs) + number] if name in later]
                    if len(passed) <= 4:
                        self.check(program, number, wanted, at)
                        checked += 1
                    else:
                        with self.assertRaises(TooMany) as caught:
                            split_program(program, number, wanted)
                        self.assertEqual(caught.exception.many, len(passed))
                        many += 1
        self.assertGreater(checked, 500)
        self.assertGreater(many, 100)

    STEPS = (("c", "add", "a", "b"), ("d", "scale", "a", 2), ("e", "mul", "c", "c"), ("f", "sub", "e", "a"))

    def test_a_known_program(self):
        program = Program(INPUTS, self.STEPS)
        for number, wanted, names in [
            (0, (), "ab"), (1, (), "ac"), (2, (), "ac"), (3, (), "ae"), (4, (), ""), (4, ("f",), "f"),
            (0, ("f",), "ab"), (4, ("d", "a", "d"), "ad"), (3, ("b",), "abe"), (2, ["d", "f"], "acd"),
            (4, ("f", "c", "a", "b"), "abcf"),
        ]:
            first, second = split_program(program, number, wanted)
            self.assertEqual((first.inputs, first.steps), (INPUTS, self.STEPS[:number]))
            self.assertEqual((second.inputs, second.steps), (tuple((name, IK) for name in names), self.STEPS[number:]))

    def test_what_is_not_used_is_passed_on_by_nobody(self):
        program = Program((("a", I2), ("b", ()), ("n", ())), (("c", "scale", "a", 2),))
        self.assertEqual(split_program(program, 0, ())[1].inputs, (("a", I2),))
        self.assertEqual(split_program(program, 0, ("n",))[1].inputs, (("a", I2), ("n", ())))

    def test_too_many(self):
        inputs = tuple((f"a{at}", ()) for at in range(6))
        program = Program(inputs, (("c", "add", "a0", "a1"),))
        wanted = [name for name, _ in inputs]
        for many in range(5):
            self.assertEqual(len(split_program(program, 1, wanted[:many])[1].inputs), many)
        for many in (5, 6):
            with self.assertRaises(TooMany) as caught:
                split_program(program, 1, wanted[:many])
            self.assertEqual(caught.exception.many, many)
        with self.assertRaises(TooMany) as caught:
            split_program(program, 1, (*wanted, "c"))
        self.assertEqual(caught.exception.many, 7)
        with self.assertRaises(TooMany) as caught:
            split_program(program, 0, wanted[1:])
        self.assertEqual(caught.exception.many, 6)
        # What only the second program makes is not passed on.
        self.assertEqual(len(split_program(program, 0, ("a2", "a3", "c"))[1].inputs), 4)

    def test_no_name_ahead_of_too_many(self):
        inputs = tuple((f"a{at}", ()) for at in range(6))
        with self.assertRaises(NoName) as caught:
            split_program(Program(inputs, ()), 0, [name for name, _ in inputs] + ["z"])
        self.assertEqual(caught.exception.name, "z")

    def test_arguments(self):
        program, wanted = Program(INPUTS, self.STEPS), ["d"]
        found = split_program(wanted=wanted, number=2, program=program)
        self.assertEqual((type(found), [type(part) for part in found]), (tuple, [Program, Program]))
        self.assertEqual(wanted, ["d"])
        self.assertEqual(listed(program.steps), listed(self.STEPS))
        self.assertEqual(Array((), (1,)), Array((), [1]))


if __name__ == "__main__":
    unittest.main()
