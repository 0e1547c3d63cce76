"""The examples of the document that use the modules that exist, word for word."""

import doctest
import unittest

EXAMPLES = (
    """
>>> from twicewashed.lengths import Length
>>> from twicewashed.shares import weigh
>>> weigh(Length(2, (2,)), Length(1, (0,)), (2, ((1, 2),)))
0
""",
    """
>>> from twicewashed.room import Room
>>> room = Room(2, [[(0, 1), (0, None)]])
>>> piece = room.cut(0, 40, 30)
>>> done = room.wash(0)
>>> now = room.edge(piece, "along")
>>> end = room.finished(piece, "along")
>>> [now.count, now.powers, end.powers]
[40, (1, 0), (2, 0)]
""",
)


class Examples(unittest.TestCase):
    def test_each_example(self):
        for number, text in enumerate(EXAMPLES):
            with self.subTest(number=number):
                test = doctest.DocTestParser().get_doctest(text, {}, f"example {number}", None, 0)
                self.assertGreater(len(test.examples), 2)
                told = []
                results = doctest.DocTestRunner().run(test, out=told.append)
                self.assertEqual(results.failed, 0, "".join(told))


if __name__ == "__main__":
    unittest.main()
