"""The examples of the document, as they stand there."""

import unittest

from faultorder.chances import chance, mean
from faultorder.commuting import apart
from faultorder.console import replies
from faultorder.errors import BadPlant
from faultorder.mending import kept, lasts, least_crew
from faultorder.orders import least_orders, orders, stops
from faultorder.plants import Plant
from faultorder.runs import Run
from faultorder.watching import foretold


class TestExamples(unittest.TestCase):
    def test_a_spare_part(self):
        plant = Plant([("a", "hot"), ("b", "hot"), ("s", "cold")],
                      [("use", "spare", ("a", "s")), ("both", "all", ("use", "b"))], [], "both")
        run = Run(plant)
        self.assertEqual((run.do(("fail", "a")), run.state, run.possible()),
                         (("a",), (("a",), (("use", "s"),), ()), [("fail", "b"), ("fail", "s"), ("mend", "a")]))

    def test_a_gate_without_inputs(self):
        with self.assertRaises(BadPlant) as caught:
            Plant([("a", "hot")], [("g", "all", ())], [], "g")
        self.assertEqual(caught.exception.part, 1)

    def test_an_order_that_counts(self):
        plant = Plant([("a", "hot"), ("b", "hot")], [("g", "before", "a", "b")], [], "g")
        self.assertEqual((orders(plant), stops(plant), apart(plant, "a", "b")),
                         ([("a", "b")], {(): "never", ("a",): "never", ("a", "b"): "sometimes", ("b",): "never"}, ()))

    def test_a_cause(self):
        plant = Plant([("a", "hot"), ("b", "hot"), ("c", "hot")], [("two", "least", 2, ("a", "b", "c"))],
                      [("a", ("c",))], "two")
        run = Run(plant)
        self.assertEqual((run.do(("fail", "a")), run.stopped, least_orders(plant)),
                         (("a", "c"), True, [("a",), ("b", "c"), ("c", "b")]))

    def test_chances(self):
        plant = Plant([("a", "hot"), ("b", "hot")], [("g", "all", ("a", "b"))], [], "g")
        odds = {("fail", "a"): (1, 2), ("fail", "b"): (1, 2)}
        self.assertEqual((chance(plant, odds, 2), mean(plant, odds)), ((1, 2), (3, 1)))

    def test_a_crew(self):
        plant = Plant([("a", "hot"), ("b", "hot")], [("g", "all", ("a", "b"))], [], "g")
        self.assertEqual((foretold(plant, ["a"]), least_crew(plant), lasts(plant, 0), kept(plant, 1)[0]),
                         (("unwarned", (("fail", "b"),), ()), 1, 2, "kept"))

    def test_a_console(self):
        plant = Plant([("a", "hot"), ("b", "hot")], [("g", "all", ("a", "b"))], [], "g")
        self.assertEqual(replies(plant, "fail a\nstate\nmend a\ncrew\ncrew 2\n"), ["a", "a", "none", "1", "unknown"])


if __name__ == "__main__":
    unittest.main()
