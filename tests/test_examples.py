"""The examples of the document, word for word."""

import doctest
import unittest

STAGE_1 = '''
>>> from letdays.calendars import Calendar
>>> from letdays.closing import all_dates, bound, needless, row, span
>>> plan = Calendar(["a", "b"], [("a", "b", -20), ("b", "day", 100), ("day", "a", 0), ("a", "day", 90)])
>>> [bound(plan, "a", "day"), row(plan, "a", "day"), span(plan, ("b", 5), ("a", 0)), needless(plan)]
[80, [('a', 'b', -20), ('b', 'day', 100)], (25, 105), [3]]
>>> [plan.with_clause(("b", "a", 10)).has_dates(), {"a": 0, "b": 20} in plan, len(list(all_dates(plan, 0, 21)))]
[False, True, 3]
'''

STAGE_2 = '''
>>> from letdays.calendars import Calendar
>>> from letdays.books import Book
>>> from letdays.deals import Deal
>>> from letdays.diaries import clashes, diary
>>> calendar = Calendar(["m"], [("day", "m", -10), ("m", "day", 40)])
>>> hall = Deal("a", "h", ["f"], ["x", "y"], ["hall"], ("m", 0), ("m", 29))
>>> disc = Deal("b", "k", ["f"], ["y"], ["disc", "hall"], ("day", 60), ("m", 80), alone=False)
>>> book = Book(calendar, [disc, hall])
>>> [book.names(), hall & disc, hall.touches(disc), hall.own_clause(), disc.own_clause(), len(book.clauses())]
[['a', 'b'], [('f', 'y', 'hall')], True, None, ('day', 'm', 20), 3]
>>> [clashes(book, {"m": 30}), clashes(book, {"m": 40}), diary(book, {"m": 40}, ("f", "y", "hall"))]
[[], [('a', 'b', 60, 69)], [(40, 59, ['a']), (60, 69, ['a', 'b']), (70, 120, ['b'])]]
'''

# Of this example only what needs no more than letdays.pairs.
STAGE_3 = '''
>>> from letdays.calendars import Calendar
>>> from letdays.books import Book
>>> from letdays.deals import Deal
>>> from letdays.pairs import apart_paper, is_surely_paper, reach, word
>>> year = Calendar(["show"], [("show", "day", 40), ("day", "show", -10)])
>>> halls = Deal("halls", "odeon", ["film"], ["be", "nl"], ["hall"], ("show", 0), ("show", 29))
>>> discs = Deal("discs", "plate", ["film"], ["be"], ["disc"], ("show", 30), ("day", 100))
>>> net = Deal("net", "wire", ["film"], ["be"], ["disc", "hall"], ("day", 60), ("day", 90), alone=False)
>>> book = Book(year, [halls, discs, net])
>>> [word(book, "halls", "discs"), word(book, "halls", "net"), word(book, "net", "discs"), reach(book, "halls", "net")]
['never', 'perhaps', 'surely', 9]
>>> apart_paper(book, "discs", "halls")
('halls', 'discs', [])
>>> is_surely_paper(book, "discs", "net", ([("show", "day", 40)], []))
True
'''


class Examples(unittest.TestCase):
    def run_example(self, text):
        test = doctest.DocTestParser().get_doctest(text, {}, "DOC.md", "DOC.md", 0)
        told = []
        failed, tried = doctest.DocTestRunner(verbose=False).run(test, out=told.append)
        self.assertGreater(tried, 0)
        self.assertEqual(failed, 0, "".join(told))

    def test_stage_1(self):
        self.run_example(STAGE_1)

    def test_stage_2(self):
        self.run_example(STAGE_2)

    def test_stage_3(self):
        self.run_example(STAGE_3)
