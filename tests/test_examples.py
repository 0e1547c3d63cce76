"""The examples of the document, word for word."""

import doctest
import unittest

EXAMPLES = (
    """
>>> from twicewashed.lengths import Length
>>> from twicewashed.shares import weigh
>>> weigh(Length(2, (2,)), Length(1, (0,)), (2, ((1, 2),)))
0
""",
    """
>>> from twicewashed.room import Room
>>> room = Room(2, [[(0, 1), (0, None)]])
>>> piece = room.cut(0, 40, 30)
>>> done = room.wash(0)
>>> now = room.edge(piece, "along")
>>> end = room.finished(piece, "along")
>>> [now.count, now.powers, end.powers]
[40, (1, 0), (2, 0)]
""",
    """
>>> from twicewashed.asking import ask, carriers
>>> from twicewashed.book import Book
>>> from twicewashed.lengths import Length
>>> from twicewashed.seams import cuts
>>> book = Book(1)
>>> slot = book.add(Length(19, (0,)), Length(20, (1,)))
>>> answer = ask(book, Length(40, (1,)), Length(38, (0,)))
>>> least = carriers(book, Length(18, (0,)), Length(19, (1,)))
>>> both = cuts(book, (1,), Length(38, (0,)), ease=(21, 20))
>>> [slot, answer[0], least, both]
[0, 'open', [(0,)], ((39, 39), (37, 42))]
""",
    """
>>> from twicewashed.book import Book
>>> from twicewashed.lengths import Length
>>> Book(1).add(Length(3, (0,)), Length(2, (1,)))
raises Clash
""",
    """
>>> from twicewashed.book import Book
>>> from twicewashed.lengths import Length
>>> from twicewashed.measuring import lots
>>> menu = [Length(7, (1, 0)), Length(9, (0, 1)), Length(2, (1, 1))]
>>> lots(Book(2), Length(5, (1, 1)), Length(4, (0, 0)), menu)
[(2,)]
""",
)


def shown(line, names):
    """What the last line of an example shows."""
    try:
        return repr(eval(line, names))
    except ValueError as error:
        return "raises " + type(error).__name__


class Examples(unittest.TestCase):
    def test_each_example(self):
        for number, text in enumerate(EXAMPLES):
            with self.subTest(number=number):
                *first, last = doctest.DocTestParser().get_examples(text)
                self.assertGreater(len(first), 1)
                names = {}
                for line in first:
                    self.assertEqual(line.want, "")
                    exec(line.source, names)
                self.assertEqual(shown(last.source, names), last.want.rstrip("\n"))


if __name__ == "__main__":
    unittest.main()
