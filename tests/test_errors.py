"""The classes of errors, and the values that they have."""

import unittest

from boughturn.errors import NoLadder, NoName, NoPaper, NoRow, NoText, TurnError

KINDS = (NoPaper, NoLadder, NoText, NoRow, NoName)


class ErrorTests(unittest.TestCase):

    def test_turn_error_is_straight_under_value_error(self):
        self.assertEqual(TurnError.__bases__, (ValueError,))

    def test_each_is_straight_under_turn_error(self):
        for kind in KINDS:
            self.assertEqual(kind.__bases__, (TurnError,), kind)

    def test_none_is_under_another(self):
        for kind in KINDS:
            for other in KINDS:
                self.assertEqual(issubclass(kind, other), kind is other, (kind, other))

    def test_names(self):
        names = [kind.__name__ for kind in KINDS]
        self.assertEqual(names, ["NoPaper", "NoLadder", "NoText", "NoRow", "NoName"])

    def test_each_is_caught_as_turn_error_and_value_error(self):
        made = (NoPaper("rule", 3), NoLadder("leads"), NoText("t"), NoRow("r"), NoName("n"), TurnError("e"))
        for error in made:
            for base in (TurnError, ValueError):
                with self.assertRaises(base):
                    raise error

    def test_no_paper_has_where_and_at(self):
        error = NoPaper("closed", 7)
        self.assertEqual((error.where, error.at), ("closed", 7))
        self.assertEqual(vars(error), {"where": "closed", "at": 7})

    def test_no_ladder_has_where(self):
        self.assertEqual(NoLadder("words").where, "words")
        self.assertEqual(vars(NoLadder("leads")), {"where": "leads"})


if __name__ == "__main__":
    unittest.main()
