import copy
import unittest

from faultorder.errors import BadPlant, BadText
from faultorder.plants import Plant
from faultorder.texts import format_plant, parse_plant
from tests.making import ANY_VALUES, made_plants, plant_of

PLANT = Plant([("a", "hot"), ("bb", "cold"), ("c", "hot")],
              [("u", "spare", ("a", "bb")), ("x", "all", ("a", "u")), ("y", "any", ("c",)), ("z", "least", 2, ("x", "y", "c")),
               ("w", "before", "z", "a")],
              [("x", ("c", "bb")), ("a", ("a",))], "w")
LINES = ["part a hot", "part bb cold", "part c hot", "gate u spare a bb", "gate x all a u", "gate y any c",
         "gate z least 2 x y c", "gate w before z a", "cause x c bb", "cause a a", "top w"]
TEXT = "\n".join(LINES) + "\n"


class TestFormat(unittest.TestCase):
    def test_each_word_of_gates(self):
        self.assertEqual(format_plant(PLANT), TEXT)
        self.assertEqual(format_plant(plant=PLANT), TEXT)

    def test_no_causes(self):
        self.assertEqual(format_plant(plant_of("a *b", [("g", "all", ("b",))])), "part a hot\npart b cold\ngate g all b\ntop g\n")

    def test_a_top_that_is_not_the_last_gate(self):
        plant = plant_of("a", [("g", "all", ("a",)), ("h", "any", ("g", "a"))], [], "g")
        self.assertEqual(format_plant(plant), "part a hot\ngate g all a\ngate h any g a\ntop g\n")

    def test_numbers_of_two_digits(self):
        gates = [("x" + letter, "all", ("a",)) for letter in "abcdef"]
        names = tuple("abcdefgh") + tuple(gate[0] for gate in gates)
        for number in (9, 10, 13, 14):
            plant = plant_of("a b c d e f g h", gates + [("g" * 6, "least", number, names)])
            text = format_plant(plant)
            self.assertIn("\ngate gggggg least " + str(number) + " a b c", text)
            self.assertEqual(parse_plant(text), plant)

    def test_read_back(self):
        for values, plant in made_plants(300):
            text = format_plant(plant)
            told = parse_plant(text)
            self.assertEqual(told, plant)
            self.assertEqual((told.parts, told.gates, told.causes, told.top),
                             (tuple(values[0]), tuple(values[1]), tuple(values[2]), values[3]))
            self.assertEqual(format_plant(told), text)
            self.assertTrue(text.endswith("\n"))
            self.assertEqual(len(text.splitlines()), sum(len(part) for part in values[:3]) + 1)


class TestParse(unittest.TestCase):
    def bad(self, text, line):
        with self.assertRaises(BadText, msg=text) as caught:
            parse_plant(text)
        self.assertEqual(caught.exception.line, line, text)
        self.assertIs(type(caught.exception.line), int)

    def bad_line(self, at, line):
        """A line that is put instead of another one is malformed, or not allowed there."""
        self.bad("\n".join(LINES[:at] + [line] + LINES[at + 1:]) + "\n", at)
        # The last newline is missing, too, but the first line that is wrong counts.
        self.bad("\n".join(LINES[:at] + [line] + LINES[at + 1:]), at)
        self.bad("\n".join(LINES[:at] + [line]), at)

    def test_the_text_of_a_plant(self):
        self.assertEqual(parse_plant(TEXT), PLANT)
        self.assertEqual(parse_plant(text=TEXT), PLANT)

    def test_any_value(self):
        for value in ANY_VALUES + [LINES, tuple(LINES), [TEXT], {TEXT: True}]:
            if not isinstance(value, str):
                saved = copy.deepcopy(value)
                self.bad(value, 0)
                self.assertEqual(value, saved)

    def test_any_string(self):
        for value in ANY_VALUES:
            if isinstance(value, str):
                self.bad(value, 0)

    def test_the_empty_text(self):
        self.bad("", 0)
        self.bad("\n", 0)
        self.bad("\n\n", 0)

    def test_a_last_newline_that_is_missing(self):
        self.bad(TEXT[:-1], len(LINES))
        self.bad("part a hot", 1)
        self.bad("part a hot\ngate g all a", 2)
        # A last line is judged ahead of that.
        self.bad(TEXT[:-2], len(LINES) - 1)
        self.bad("part a hot\ngate g all", 1)
        self.bad("part a hot\ntop g", 1)

    def test_a_line_top_that_is_missing(self):
        for many in range(1, len(LINES)):
            self.bad("\n".join(LINES[:many]) + "\n", many)
            self.bad("\n".join(LINES[:many]), many)

    def test_lines_behind_top(self):
        for line in LINES + ["", " ", "x"]:
            self.bad(TEXT + line + "\n", len(LINES))
        self.bad(TEXT + "top w", len(LINES))
        self.bad(TEXT + "\n\n", len(LINES))

    def test_an_empty_line(self):
        for at in range(len(LINES)):
            self.bad("\n".join(LINES[:at] + [""] + LINES[at:]) + "\n", at)

    def test_the_order_of_lines(self):
        self.bad("gate g all a\npart a hot\ntop g\n", 0)
        self.bad("cause a a\n", 0)
        self.bad("top g\n", 0)
        self.bad("part a hot\ncause a a\ngate g all a\ntop g\n", 1)
        self.bad("part a hot\ntop g\ngate g all a\n", 1)
        self.bad("part a hot\ngate g all a\npart b hot\ntop g\n", 2)
        self.bad("part a hot\ngate g all a\ncause a a\npart b hot\ntop g\n", 3)
        self.bad("part a hot\ngate g all a\ncause a a\ngate h all a\ntop g\n", 3)
        self.bad("part a hot\ngate g all a\ntop g\ncause a a\n", 3)
        self.bad("part a hot\ngate g all a\ntop g\ntop g\n", 3)

    def test_words(self):
        for at, line in enumerate(LINES):
            for wrong in [" " + line, line + " ", line.replace(" ", "  ", 1), line + "  ", line.replace(" ", "\t", 1),
                          line.upper(), line.capitalize(), line.replace(" ", "", 1), "x" + line, line + ".",
                          line.split(" ", 1)[1], line.split(" ", 1)[0], line.split(" ", 1)[0] + " "]:
                self.bad_line(at, wrong)

    def test_parts(self):
        for wrong in ["part a warm", "part a", "part hot", "part a hot cold", "part a hot a", "part A hot", "part abcdefg hot",
                      "part a1 hot", "part a-b hot", "part  hot", "part a Hot", "part a hotter", "parts a hot", "part a "]:
            self.bad_line(0, wrong)
            self.bad_line(1, wrong)

    def test_gates(self):
        for wrong in ["gate g", "gate g all", "gate all a", "gate g none a", "gate g all A", "gate g all a abcdefg",
                      "gate G all a", "gate abcdefg all a", "gate g all a,b", "gate g all a  u", "gate g any", "gate g spare",
                      "gate g before a", "gate g before a u x", "gate g before", "gate g before a U", "gate g least",
                      "gate g least 1", "gate g least a", "gate g least a a", "gate g least 1 2", "gate g least 1 A",
                      "gate g ALL a", "gate g all 1 a", "gate g before 1 a", "gate", "gate  all a"]:
            self.bad_line(4, wrong)

    def test_numbers(self):
        for number in ["0", "00", "01", "09", "100", "", "+1", "-1", " 1", "1 ", "1.", "1a", "a1", "1e", "0x", "1_", "999", "x"]:
            self.bad_line(6, "gate z least " + number + " x y c")
        for number in range(1, 100):
            text = "part a hot\ngate g least " + str(number) + " a\ntop g\n"
            if number == 1:
                self.assertEqual(parse_plant(text), plant_of("a", [("g", "least", 1, ("a",))]))
            else:
                with self.assertRaises(BadPlant) as caught:
                    parse_plant(text)
                self.assertEqual(caught.exception.part, 1)

    def test_causes(self):
        for wrong in ["cause", "cause x", "cause X c", "cause x C", "cause x c abcdefg", "cause x c,bb", "cause x 1", "cause  c"]:
            self.bad_line(8, wrong)
            self.bad_line(9, wrong)

    def test_tops(self):
        for wrong in ["top", "top w w", "top W", "top abcdefg", "top ", "top 1", "tops w", "top w "]:
            self.bad_line(10, wrong)

    def test_the_first_line_that_is_wrong_counts(self):
        self.bad("part a hot\npart b warm\ngate g\ntop g\n", 1)
        self.bad("part a hot\ngate g all a\ncause a\ngate\n", 2)
        self.bad("part a hot\ngate g all a\ntop g\npart a warm\n", 3)

    def test_bad_plant(self):
        for text, part in [
                ("part a hot\npart a cold\ngate g all a\ntop g\n", 0),
                ("".join("part " + letter + " hot\n" for letter in "abcdefghi") + "gate g all a\ntop g\n", 0),
                ("part a hot\ngate g all b\ntop g\n", 1), ("part a hot\ngate a all a\ntop a\n", 1),
                ("part a hot\ngate g all a a\ntop g\n", 1), ("part a hot\ngate g spare g\ntop g\n", 1),
                ("part a hot\ngate g before a a\ntop g\n", 1), ("part a hot\ngate g least 2 a\ntop g\n", 1),
                ("part a hot\n" + "".join("gate g" + letter + " all a\n" for letter in "abcdefghi") + "top ga\n", 1),
                ("part a hot\ngate g all a\ncause b a\ntop g\n", 2), ("part a hot\ngate g all a\ncause a g\ntop g\n", 2),
                ("part a hot\ngate g all a\ncause a a a\ntop g\n", 2),
                ("part a hot\ngate g all a\n" + "cause a a\n" * 5 + "top g\n", 2),
                ("part a hot\ngate g all a\ntop a\n", 3), ("part a hot\ngate g all a\ntop h\n", 3),
                ("part a hot\ngate u spare a\ngate v spare a\ntop v\n", 3),
                ("part a hot\npart a hot\ngate g all b\ncause b a\ntop h\n", 0), ("part a hot\ngate g all b\ncause b a\ntop h\n", 1)]:
            with self.assertRaises(BadPlant, msg=text) as caught:
                parse_plant(text)
            self.assertEqual(caught.exception.part, part, text)
        # A line that is malformed, or a newline that is missing, comes ahead.
        self.bad("part a hot\npart a hot\ngate g all b\ntop h", 4)
        self.bad("part a hot\npart a hot\ngate g all b\ntop h \n", 3)

    def test_words_as_names(self):
        text = "part part hot\npart gate cold\ngate top all part gate\ngate cause spare gate part\ngate all before part top\n"
        text += "cause cause gate\ncause gate part\ntop all\n"
        plant = parse_plant(text)
        self.assertEqual((plant.parts, plant.top, plant.causes),
                         ((("part", "hot"), ("gate", "cold")), "all", (("cause", ("gate",)), ("gate", ("part",)))))
        self.assertEqual(format_plant(plant), text)

    def test_four_causes(self):
        text = "part a hot\ngate g all a\n" + "cause a a\n" * 4 + "top g\n"
        self.assertEqual(format_plant(parse_plant(text)), text)


if __name__ == "__main__":
    unittest.main()
