"""Point [8]: programs written as text, and read again."""

import unittest

from any_programs import any_program
from any_values import ANY_VALUES, BAD_WORDS
from dealtarrays.errors import DealError, InvalidText
from dealtarrays.programs import Program
from dealtarrays.texts import read_program, write_program

# For each kind lines, and what they tell.
PROGRAM = Program(
    (("a", (("i", 2), ("k", 3))), ("n", ()), ("v", (("k", 3),))),
    (
        ("b", "add", "a", "v"), ("c", "sub", "v", "n"), ("d", "mul", "b", "c"), ("e", "mulsum", "a", "v", ("k",)),
        ("e1", "mulsum", "a", "v", ()), ("e2", "mulsum", "a", "v", ("i", "k")), ("f", "sum", "a", ("i", "k")),
        ("f1", "sum", "a", ()), ("g", "scale", "n", -12), ("g1", "scale", "n", 0), ("h", "spread", "a", "j", 4),
        ("l", "turn", "h", "i", "z"), ("m", "shift", "l", "k", -5), ("m1", "shift", "l", "k", 10 ** 40 - 1),
        ("o", "pick", "m", "j", 3), ("p", "put", "o", "b", 2, 0),
    ),
)
TEXT = """input a i:2 k:3
input n
input v k:3
b add a v
c sub v n
d mul b c
e mulsum a v k
e1 mulsum a v -
e2 mulsum a v i,k
f sum a i,k
f1 sum a -
g scale n -12
g1 scale n 0
h spread a j 4
l turn h i z
m shift l k -5
m1 shift l k 9999999999999999999999999999999999999999
o pick m j 3
p put o b 2 0
"""
LINES = TEXT.split("\n")[:-1]

HEAD = ["input a i:2 k:3", "input v k:3"]
GOOD_LINES = [
    "b add a v", "b sub a v", "b mul a v", "b mulsum a v k", "b mulsum a v -", "b mulsum a v i,k", "b sum a i",
    "b scale a -2", "b spread a j 2", "b turn a i z", "b shift a i 1", "b pick a k 2", "b put a z 3 1",
]
FOREIGN = ["\t", "\r", "\x0b", "\x0c", "\x1c", "\x85", "\u2028", "\u00a0", "\u3000", "\x00"]


def joined(lines):
    return "".join(line + "\n" for line in lines)


class TextCase(unittest.TestCase):
    def check_same(self, program, other):
        self.assertEqual((program.inputs, program.steps), (other.inputs, other.steps))

    def check_wrong(self, text, at):
        with self.assertRaises(InvalidText) as caught:
            read_program(text)
        self.assertIs(type(caught.exception.at), int)
        self.assertEqual(caught.exception.at, at, repr(text))
        self.assertIs(caught.exception.text, text)

    def check_wrong_line(self, line):
        """The line is wrong as the last one, ahead of others, and ahead of other wrong ones."""
        self.check_wrong(joined(HEAD + [line]), 2)
        self.check_wrong(joined(HEAD + ["y scale a 1", line]), 3)
        self.check_wrong(joined(HEAD + [line, "y scale a 1", "y scale a 1", ""]), 2)


class TestWrite(TextCase):
    def test_all_kinds(self):
        self.assertEqual(write_program(PROGRAM), TEXT)

    def test_no_inputs_and_no_steps(self):
        self.assertEqual(write_program(Program((), ())), "")
        self.assertEqual(write_program(Program((("a", ()),), ())), "input a\n")
        self.assertEqual(write_program(Program([["b", [["i", 6]]], ["a", []]], [])), "input b i:6\ninput a\n")

    def test_the_example(self):
        inputs = (("a", (("i", 2), ("k", 2))), ("b", (("j", 2), ("k", 2))))
        program = Program(inputs, (("c", "mulsum", "a", "b", ("k",)),))
        self.assertEqual(write_program(program=program), "input a i:2 k:2\ninput b j:2 k:2\nc mulsum a b k\n")

    def test_lists(self):
        program = Program([["a", [["i", 2]]]], [["b", "sum", "a", ["i"]], ["c", "sum", "a", []]])
        self.assertEqual(write_program(program), "input a i:2\nb sum a i\nc sum a -\n")


class TestRead(TextCase):
    def test_all_kinds(self):
        self.check_same(read_program(TEXT), PROGRAM)
        self.check_same(read_program(text=TEXT), PROGRAM)

    def test_no_inputs_and_no_steps(self):
        self.check_same(read_program(""), Program((), ()))
        self.check_same(read_program("input a\n"), Program((("a", ()),), ()))

    def test_each_beginning(self):
        for many in range(len(LINES)):
            program = read_program(joined(LINES[:many]))
            self.assertEqual(program.inputs + program.steps, (PROGRAM.inputs + PROGRAM.steps)[:many])

    def test_there_and_back(self):
        for number in range(120):
            program = any_program(number, 6, 12)
            text = write_program(program)
            self.check_same(read_program(text), program)
            self.assertEqual(write_program(read_program(text)), text)

    def test_six_inputs_and_many_steps(self):
        inputs = tuple((f"a{at}", (("i", at + 1),)) for at in range(6))
        steps = tuple((f"s{at}", "scale", "a0", at) for at in range(150))
        program = Program(inputs, steps)
        self.check_same(read_program(write_program(program)), program)

    def test_names_that_are_words_of_kinds(self):
        program = Program((("add", (("sum", 2),)), ("inputs", ())), (("put", "sum", "add", ("sum",)),))
        self.check_same(read_program("input add sum:2\ninput inputs\nput sum add sum\n"), program)


class TestWrong(TextCase):
    def test_what_is_no_string(self):
        for value in ANY_VALUES:
            if not isinstance(value, str):
                self.check_wrong(value, 0)

    def test_strings_of_any_kind(self):
        for value in ANY_VALUES:
            if isinstance(value, str) and value != "":
                self.check_wrong(value, 0)

    def test_the_lines_that_are_good(self):
        for line in GOOD_LINES:
            self.assertEqual(write_program(read_program(joined(HEAD + [line]))), joined(HEAD + [line]))

    def test_a_sign_left_out_of_each_line(self):
        # Where the text is still a program it must be another one, of which it is the text.
        for line in GOOD_LINES:
            for at in range(len(line)):
                self.check_wrong_or_the_text_of_a_program(line[:at] + line[at + 1:])

    def test_a_sign_doubled_or_put_in(self):
        for line in GOOD_LINES:
            for at in range(len(line) + 1):
                for sign in [line[at:at + 1], " ", ",", ":", "-", "+", "0", "a", "A", "_", ".", *FOREIGN]:
                    if sign:
                        self.check_wrong_or_the_text_of_a_program(line[:at] + sign + line[at:])

    def check_wrong_or_the_text_of_a_program(self, line):
        text = joined(HEAD + [line])
        try:
            program = read_program(text)
        except InvalidText:
            self.check_wrong_line(line)
        else:
            self.assertEqual(write_program(program), text)

    def test_blanks(self):
        for line in GOOD_LINES + ["input b", "input b j:2"]:
            self.check_wrong_line(" " + line)
            self.check_wrong_line(line + " ")
            for at, sign in enumerate(line):
                if sign == " ":
                    self.check_wrong_line(line[:at] + " " + line[at:])
                    for other in FOREIGN + ["", ",", "-"]:
                        self.check_wrong_line(line[:at] + other + line[at + 1:])

    def test_words_left_out_and_doubled(self):
        for line in GOOD_LINES:
            words = line.split(" ")
            for at in range(len(words)):
                self.check_wrong_line(" ".join(words[:at] + words[at + 1:]))
                self.check_wrong_line(" ".join(words[:at + 1] + words[at:]))
            self.check_wrong_line(line + " a")
            self.check_wrong_line(line + " 1")
            self.check_wrong_line(line + " -")

    def test_capital_letters(self):
        for line in GOOD_LINES + ["input b j:2"]:
            self.check_wrong_line(line.upper())
            for at, sign in enumerate(line):
                if sign.islower():
                    self.check_wrong_line(line[:at] + sign.upper() + line[at + 1:])

    def test_other_kinds_and_names(self):
        for line in GOOD_LINES:
            words = line.split(" ")
            for kind in ["div", "Add", "input", "", "sums", "1", "a"]:
                self.check_wrong_line(" ".join([words[0], kind] + words[2:]))
            for name in BAD_WORDS + ["x", "b", "input", "k", "abcdefghi"]:
                self.check_wrong_line(" ".join(words[:2] + [name] + words[3:]))
            for name in BAD_WORDS + ["a", "v", "input"]:
                self.check_wrong_line(" ".join([name] + words[1:]))

    def test_empty_lines(self):
        self.check_wrong("\n", 0)
        self.check_wrong("\n\n", 0)
        self.check_wrong("\n" + TEXT, 0)
        self.check_wrong(TEXT + "\n", len(LINES))
        self.check_wrong_line("")
        self.check_wrong_line(" ")

    def test_no_line_feed_at_the_end(self):
        self.check_wrong(TEXT[:-1], len(LINES) - 1)
        self.check_wrong(TEXT + " ", len(LINES))
        self.check_wrong(TEXT + "input", len(LINES))
        self.check_wrong(TEXT + "q scale a 1", len(LINES))
        self.check_wrong("input a", 0)
        self.check_wrong("input a\n\n", 1)
        self.check_wrong("input a\ninput b", 1)
        self.check_wrong("input a\nb scale a 1\nb scale a 1\nc scale a 1", 2)

    def test_other_ends_of_lines(self):
        for sign in FOREIGN + ["\r\n"]:
            self.check_wrong(TEXT.replace("\n", sign), 0)
            self.check_wrong(joined(HEAD) + "b add a v" + sign + "\n", 2)
            self.check_wrong(joined(HEAD) + "b add a v" + sign + "c add a v\n", 2)


class TestNumbers(TextCase):
    def places_of_numbers(self, number):
        return [f"b scale a {number}", f"b shift a i {number}", f"b spread a j {number}", f"b pick a k {number}",
                f"b put a z {number} 0", f"b put a z 3 {number}", f"input b j:{number}"]

    def test_ways_to_write_numbers_wrongly(self):
        for number in ["+1", "-0", "01", "00", "-01", "--1", "-", "", "1.0", "1e0", "1_0", "0x1", " 1", "1 ", "\u0661",
                       "\u00b2", "a", "None", "True", "(1)", "1,1", "1:1", "1-", "- 1", "\u22121", "1\t", "1\r"]:
            for line in self.places_of_numbers(number):
                self.check_wrong_line(line)

    def test_leading_zeros_in_front_of_each_number(self):
        for number in range(-12, 12):
            self.assertEqual(read_program(joined(HEAD + [f"b scale a {number}"])).steps[0][3], number)
            for line in self.places_of_numbers(f"0{number}") + self.places_of_numbers(f"+{number}"):
                self.check_wrong_line(line)

    def test_forty_and_forty_one_digits(self):
        for number in [10 ** 39, 10 ** 40 - 1, -10 ** 39, 1 - 10 ** 40]:
            program = read_program(joined(HEAD + [f"b scale a {number}", f"c shift a i {number}"]))
            self.assertEqual([step[-1] for step in program.steps], [number, number])
        for number in [10 ** 40, -10 ** 40, 10 ** 41 - 1, 10 ** 399, "9" * 5000, "-" + "9" * 5000, "0" * 41]:
            for line in self.places_of_numbers(number):
                self.check_wrong_line(line)

    def test_sizes_and_places(self):
        for size in range(-1, 9):
            lines = [f"input b j:{size}", f"b spread a j {size}", f"b put a z {size} 0"]
            for line in lines:
                text = joined([HEAD[0], line])
                if 1 <= size <= 6:
                    self.assertEqual(write_program(read_program(text)), text)
                else:
                    self.check_wrong(text, 1)


class TestInputs(TextCase):
    def test_lines_of_inputs(self):
        for line in ["input", "input ", "input 1", "input A", "input input", "input b j", "input b j:", "input b :2",
                     "input b j:2:2", "input b j:2,l:2", "input b 2:j", "input b j 2", "input b j:2 l",
                     "input b k:2 j:2", "input b j:2 j:2", "input b j:7", "input b J:2", "input b c:6 d:6 e:6",
                     "input b j:2 ", "input b c:1 d:1 e:1 f:1 g:1", "input b, c", "input a", "input v", "input b -",
                     "Input b", "inputs b"]:
            self.check_wrong_line(line)

    def test_an_input_after_a_step(self):
        self.check_wrong(joined(["input a", "b scale a 2", "input c"]), 2)
        self.check_wrong(joined(["input a", "b scale a 2", "c scale b 2", "input d", "input a"]), 3)
        self.check_wrong(joined(["input a", "b scale x 2", "input c"]), 1)
        self.check_wrong(joined(["b scale a 2", "input a"]), 0)

    def test_more_inputs_than_there_may_be(self):
        lines = [f"input a{at}" for at in range(9)]
        self.assertEqual(len(read_program(joined(lines[:6])).inputs), 6)
        for many in (7, 8, 9):
            self.check_wrong(joined(lines[:many]), 6)
            self.check_wrong(joined(lines[:many] + ["b scale x 2"]), 6)

    def test_names_twice(self):
        self.check_wrong("input a\ninput b\ninput a\n", 2)
        self.check_wrong("input a\nb scale a 2\na scale b 2\n", 2)
        self.check_wrong("input a\nb scale a 2\nb scale b 2\n", 2)

    def test_operands_that_come_later(self):
        self.check_wrong("input a\nb scale c 2\nc scale a 2\n", 1)
        self.check_wrong("input a\nc scale a 2\nb add a d\nd scale a 2\n", 2)

    def test_the_first_line_that_is_wrong(self):
        for first in range(len(LINES)):
            for spoilt in ["", "x", "q add a a a", "q scale zz 2", "input"]:
                lines = list(LINES)
                lines[first] = spoilt
                self.check_wrong(joined(lines), first)
                self.check_wrong(joined(lines + ["", "q"]), first)
                self.check_wrong(joined(lines) + "rest", first)

    def test_rows_of_names(self):
        for names in ["", ",", "i,", ",i", "k,i", "i,i", "i,x", "i,,k", "i, k", "--", "-,i", "i,-", "(i)", "i;k", "I",
                      "1"]:
            self.check_wrong_line(f"b sum a {names}")
            self.check_wrong_line(f"b mulsum a v {names}")

    def test_the_error_is_under_deal_error(self):
        with self.assertRaises(DealError):
            read_program("?")


if __name__ == "__main__":
    unittest.main()
