"""[2] and the row cabinet/errors.py; of [1] what holds of the list that NoFit is made of."""

import copy
import unittest

from cabinet import errors
from cabinet.errors import BadText, CabinetError, NoFit, Stuck
from tests.samples import holders, identities, spoil

NAMES = ["TooGreat", "BadText", "BadPath", "NoPlace", "NoDeed", "NoneFits", "CantMove", "NoBack", "NoVersion",
         "NoFit", "Stuck", "BadQuestion", "NoKey", "IsKept", "NotKept", "NoWayBack", "NoStore", "BadRow"]
FIELDS = {"BadText": [("at", 0, 7)], "NoPlace": [("at", 0, 7)], "NoDeed": [("number", 0, 7)],
          "CantMove": [("number", 0, 7)], "NoBack": [("number", 0, 7)],
          "NoFit": [("faults", [], [(["a", 0], "kind"), ([], "least")])],
          "Stuck": [("version", 0, 3), ("key", None, 5)]}
ALL = {name: getattr(errors, name) for name in NAMES}


class Classes(unittest.TestCase):
    def test_eighteen_stand_under_cabinet_error(self):
        self.assertEqual(len(ALL), 18)
        self.assertTrue(issubclass(CabinetError, ValueError))
        for name, refusal in ALL.items():
            with self.subTest(name):
                self.assertEqual(refusal.__name__, name)
                self.assertTrue(issubclass(refusal, CabinetError))
                self.assertTrue(issubclass(refusal, ValueError))
                self.assertIsNot(refusal, CabinetError)

    def test_none_stands_under_another(self):
        for name, refusal in ALL.items():
            for other_name, other in ALL.items():
                if name != other_name:
                    self.assertFalse(issubclass(refusal, other), (name, other_name))

    def test_no_refusal_is_a_kind_of_pythons_own_but_value_error(self):
        for refusal in ALL.values():
            self.assertEqual(refusal.__mro__[-5:], (CabinetError, ValueError, Exception, BaseException, object))

    def test_raised_and_taken_by_each_name_above(self):
        for refusal in ALL.values():
            for above in (refusal, CabinetError, ValueError):
                with self.assertRaises(above):
                    raise refusal("why")


class Texts(unittest.TestCase):
    def test_str_is_the_text(self):
        for text in ("no such place", "", "two\nrows", "it's"):
            self.assertEqual(str(CabinetError(text)), text)
            for name, refusal in ALL.items():
                self.assertEqual(str(refusal(text)), text, name)

    def test_str_is_the_text_with_fields_told(self):
        for name, fields in FIELDS.items():
            self.assertEqual(str(ALL[name]("why", *[told for _, _, told in fields])), "why", name)


class Fields(unittest.TestCase):
    def test_told_by_place(self):
        for name, fields in FIELDS.items():
            refusal = ALL[name]("why", *[told for _, _, told in fields])
            for field, _, told in fields:
                self.assertEqual(getattr(refusal, field), told, name)

    def test_left_out(self):
        for name, fields in FIELDS.items():
            refusal = ALL[name]("why")
            for field, default, _ in fields:
                self.assertEqual(getattr(refusal, field), default, name)

    def test_no_other_has_a_field(self):
        for name, refusal in ALL.items():
            fields = [field for field, _, _ in FIELDS.get(name, [])]
            self.assertEqual(sorted(vars(refusal("why"))), sorted(fields), name)

    def test_stuck_with_one_and_with_both(self):
        one = Stuck("why", 4)
        self.assertEqual((one.version, one.key), (4, None))
        both = Stuck("why", 4, 0)
        self.assertEqual((both.version, both.key), (4, 0))

    def test_fields_are_each_objects_own(self):
        first = BadText("why", 3)
        BadText("why", 9)
        self.assertEqual(first.at, 3)


class FaultsOfNoFit(unittest.TestCase):
    def made(self):
        return [(["a", 0, "b"], "kind"), ([], "least"), (["c"], "lacks")]

    def test_equal_in_its_kinds(self):
        refusal = NoFit("why", self.made())
        self.assertEqual(refusal.faults, self.made())
        self.assertIsInstance(refusal.faults, list)
        for pair in refusal.faults:
            self.assertIsInstance(pair, tuple)
            self.assertIsInstance(pair[0], list)

    def test_what_is_handed_in_stays(self):
        faults = self.made()
        NoFit("why", faults)
        self.assertEqual(faults, self.made())

    def test_spoilt_behind_it_changes_nothing_told(self):
        faults = self.made()
        refusal = NoFit("why", faults)
        spoil(faults)
        self.assertEqual(refusal.faults, self.made())

    def test_told_and_spoilt_changes_nothing_handed_in(self):
        faults = self.made()
        spoil(NoFit("why", faults).faults)
        self.assertEqual(faults, self.made())
        self.assertEqual(NoFit("why", faults).faults, self.made())

    def test_no_list_stands_in_it_twice(self):
        path = ["a"]
        faults = [(path, "least"), (path, "most")]
        before = copy.deepcopy(faults)
        refusal = NoFit("why", faults)
        self.assertEqual(refusal.faults, before)
        self.assertEqual(len(set(identities(refusal.faults))), len(holders(refusal.faults)))
        self.assertFalse(set(identities(refusal.faults)) & set(identities(faults)))

    def test_the_default_is_a_list_of_its_own(self):
        NoFit("why").faults.append("spoilt")
        self.assertEqual(NoFit("why").faults, [])

    def test_no_faults_told(self):
        empty = []
        refusal = NoFit("why", empty)
        self.assertEqual(refusal.faults, [])
        self.assertIsNot(refusal.faults, empty)


if __name__ == "__main__":
    unittest.main()
