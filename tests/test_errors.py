"""Point 5 and the section nodearer/errors.py."""

import nodearer.errors as errors
from tests.helpers import FIELDS, Case

VALUES = {"lot": [2, 0], "first": [1, 0], "second": [3], "thing": 2, "count": 7, "number": -5, "at": 4,
          "line": 3, "column": 9}


class ErrorsTest(Case):
    def test_every_error_derives_directly(self):
        self.assertEqual(errors.NodearerError.__bases__, (ValueError,))
        for name in FIELDS:
            self.assertEqual(getattr(errors, name).__bases__, (errors.NodearerError,))

    def test_fields_in_their_order(self):
        for name, fields in FIELDS.items():
            error = getattr(errors, name)(*[VALUES[field] for field in fields])
            for field in fields:
                wanted = VALUES[field]
                if name == "CrossError" or not isinstance(wanted, list):
                    self.assertEqual(getattr(error, field), wanted)
                else:
                    self.exact(getattr(error, field), tuple(wanted))

    def test_fields_by_name(self):
        for name, fields in FIELDS.items():
            error = getattr(errors, name)(**{field: VALUES[field] for field in fields})
            self.assertIsInstance(error, errors.NodearerError)

    def test_lots_are_copied_and_not_sorted(self):
        lot = [3, 1, 2]
        error = errors.LotError(lot)
        lot.append(9)
        self.exact(error.lot, (3, 1, 2))
        self.exact(errors.ShareError([2, 1]).lot, (2, 1))
        failure = errors.ExchangeError([1, 0], (5, 4), 1)
        self.exact((failure.first, failure.second, failure.thing), ((1, 0), (5, 4), 1))

    def test_cross_error_keeps_indexes(self):
        error = errors.CrossError(0, 3)
        self.assertEqual((error.first, error.second), (0, 3))

    def test_wish_error_may_keep_none(self):
        self.assertIsNone(errors.WishError(None).at)

    def test_messages_of_long_integers(self):
        for name, fields in FIELDS.items():
            far = [[10 ** 12000] if VALUES[field].__class__ is list else 10 ** 12000 for field in fields]
            error = getattr(errors, name)(*far)
            self.assertGreater(len(str(error)), 0)
            self.assertIn(name, repr(error))

    def test_history_error_has_no_fields(self):
        self.assertEqual(vars(errors.HistoryError()), {})
