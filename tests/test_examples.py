"""The examples of the document, word for word."""

import doctest
import unittest

STAGE_1 = '''
>>> from letdays.calendars import Calendar
>>> from letdays.closing import all_dates, bound, needless, row, span
>>> plan = Calendar(["a", "b"], [("a", "b", -20), ("b", "day", 100), ("day", "a", 0), ("a", "day", 90)])
>>> [bound(plan, "a", "day"), row(plan, "a", "day"), span(plan, ("b", 5), ("a", 0)), needless(plan)]
[80, [('a', 'b', -20), ('b', 'day', 100)], (25, 105), [3]]
>>> [plan.with_clause(("b", "a", 10)).has_dates(), {"a": 0, "b": 20} in plan, len(list(all_dates(plan, 0, 21)))]
[False, True, 3]
'''

STAGE_2 = '''
>>> from letdays.books import Book
>>> from letdays.deals import Deal
>>> from letdays.diaries import clashes, diary
>>> calendar = Calendar(["m"], [("day", "m", -10), ("m", "day", 40)])
>>> hall = Deal("a", "h", ["f"], ["x", "y"], ["hall"], ("m", 0), ("m", 29))
>>> disc = Deal("b", "k", ["f"], ["y"], ["disc", "hall"], ("day", 60), ("m", 80), alone=False)
>>> book = Book(calendar, [disc, hall])
>>> [book.names(), hall & disc, hall.touches(disc), hall.own_clause(), disc.own_clause(), len(book.clauses())]
[['a', 'b'], [('f', 'y', 'hall')], True, None, ('day', 'm', 20), 3]
>>> [clashes(book, {"m": 30}), clashes(book, {"m": 40}), diary(book, {"m": 40}, ("f", "y", "hall"))]
[[], [('a', 'b', 60, 69)], [(40, 59, ['a']), (60, 69, ['a', 'b']), (70, 120, ['b'])]]
'''

STAGE_3 = '''
>>> from letdays.pairs import apart_paper, is_surely_paper, reach, word
>>> from letdays.together import first_apart, is_safe, is_together_paper, is_tree, open_pairs, quiet_dates
>>> year = Calendar(["show"], [("show", "day", 40), ("day", "show", -10)])
>>> halls = Deal("halls", "odeon", ["film"], ["be", "nl"], ["hall"], ("show", 0), ("show", 29))
>>> discs = Deal("discs", "plate", ["film"], ["be"], ["disc"], ("show", 30), ("day", 100))
>>> net = Deal("net", "wire", ["film"], ["be"], ["disc", "hall"], ("day", 60), ("day", 90), alone=False)
>>> book = Book(year, [halls, discs, net])
>>> [word(book, "halls", "discs"), word(book, "halls", "net"), word(book, "net", "discs"), reach(book, "halls", "net")]
['never', 'perhaps', 'surely', 9]
>>> [apart_paper(book, "discs", "halls"), is_together_paper(book, ["net", "halls"], ({"show": 31}, 60))]
[('halls', 'discs', []), True]
>>> [is_surely_paper(book, "discs", "net", ([("show", "day", 40)], [])), first_apart(book, ["net", "halls", "discs"])]
[True, ('discs', 'halls')]
>>> [open_pairs(book), is_safe(book), quiet_dates(book)]
[[('discs', 'net'), ('halls', 'net')], False, None]
>>> is_tree(book, ("discs", "net", [("day", "day", -41)], [("day", "show", -61), ("show", "day", 40)]))
True
'''

STAGE_4 = '''
>>> from letdays.crowds import greatest_crowd, heights, is_roster, most_at_once
>>> from letdays.order import ahead_row, direct_pairs, is_ahead, least_gap
>>> calendar = Calendar(["m", "n"], [("day", "m", -10), ("m", "n", -30)])
>>> hall = Deal("a", "h", ["f"], ["x"], ["hall"], ("m", 0), ("m", 24))
>>> disc = Deal("b", "k", ["f"], ["x"], ["hall"], ("n", 0), ("n", 9))
>>> early = Deal("c", "k", ["f"], ["x"], ["hall"], ("day", 0), ("n", -25))
>>> book = Book(calendar, [hall, disc, early])
>>> [is_ahead(book, "a", "b"), least_gap(book, "a", "b"), ahead_row(book, "a", "b"), direct_pairs(book)]
[True, 5, [('m', 'n', -30)], [('a', 'b'), ('c', 'b')]]
>>> [greatest_crowd(book, ["a", "b", "c"]), most_at_once(book, ["a", "b"]), heights(book, ["a", "b", "c"])]
[['a', 'c'], 1, {'a': 1, 'b': 2, 'c': 1}]
>>> [is_roster(book, ["a", "b", "c"], [["a", "b"], ["c"]]), is_roster(book, ["a", "b", "c"], [["c", "a"], ["b"]])]
[True, False]
'''

STAGE_5 = '''
>>> from letdays.buying import Back, least_back, loads, premium, sides, to_buy
>>> from letdays.keeping import chain_price, charge, dearest_chain
>>> calendar = Calendar(["x"], [("day", "x", 0), ("x", "day", 30)])
>>> early = Deal("a", "hale", ["f"], ["l"], ["hall"], ("x", 0), ("x", 9), price=3)
>>> late = Deal("b", "iver", ["f"], ["l"], ["hall"], ("x", 10), ("x", 19), price=4)
>>> fixed = Deal("c", "hale", ["f"], ["l"], ["hall"], ("day", 12), ("day", 20), price=5)
>>> book = Book(calendar, [early, late, fixed])
>>> [least_back(book), sides(book), premium(book, "c"), sum(loads(book).values()), to_buy(book, fixed.named("d"))]
[['c'], (['a', 'b'], ['c']), 2, 5, ['a', 'b', 'c']]
>>> cell = ("f", "l", "hall")
>>> [chain_price(book, cell), dearest_chain(book, cell), sum([number for crowd, number in charge(book, cell)])]
[7, ['a', 'b'], 7]
>>> [Back(book, ["a"]).is_enough(), Back(book, ["b", "a"]) | Back(book, ["c"])]
[False, Back(['a', 'b', 'c'])]
'''

STAGE_6 = '''
>>> from letdays.boxes import greatest_boxes, least_delay
>>> from letdays.windows import Window, barred, earliest, held, room_at
>>> calendar = Calendar(["s"], [("day", "s", 0), ("s", "day", 100)])
>>> hall = Deal("x", "h", ["f"], ["l"], ["w"], ("s", 0), ("s", 9))
>>> book = Book(calendar, [hall])
>>> [barred(book, "x", "s"), barred(book, "x", "day"), held(book, "x", "s"), held(book, "x", "day")]
[(0, 9), (0, 109), (0, 9), None]
>>> [earliest(book, ("f", "l", "w"), ("day", 0), 5), room_at(book, ("f", "l", "w"), ("s", -3)), (-Window([(0, 9)]) + 1).stretches]
[110, 3, [(None, 0), (11, None)]]
>>> greatest_boxes(book, "f", ["l", "k"], ["w"], "s")
[(('k',), ('w',), (None, None)), (('k', 'l'), ('w',), (None, -1)), (('k', 'l'), ('w',), (10, None))]
>>> least_delay(book, Deal("y", "g", ["f"], ["l"], ["w"], ("s", 0), ("s", 4)))
10
'''

STAGE_7 = '''
>>> from letdays.changes import can_be_ahead, days_of, learnt
>>> from letdays.rights import is_safe_with, play, rooms, slacks, tight_pair
>>> early = Deal("early", "h", ["f"], ["de"], ["hall"], ("p", 0), ("p", 29))
>>> disc = Deal("disc", "h", ["f"], ["de"], ["hall"], ("p", 40), ("p", 50))
>>> net = Deal("net", "k", ["f"], ["de"], ["hall"], ("q", 0), ("q", 10))
>>> row = Book(Calendar(["p", "q"], [("day", "p", 0), ("p", "q", -60)]), [early, disc, net])
>>> [slacks(row), rooms(row)["disc"], play(row, 1), tight_pair(row, 1), play(row, 0)]
[{('disc', 'net'): 9, ('early', 'disc'): 10, ('early', 'net'): 30}, (10, 9), 9, ('disc', 'net'), None]
>>> [is_safe_with(row, {"early": (0, 4), "disc": (6, 9)}), is_safe_with(row, {"early": (0, 5), "disc": (6, 0)}), can_be_ahead(row, "net", "disc")]
[True, False, False]
>>> [days_of(row, "q"), days_of(learnt(row, "q", 75), "p")]
[(60, None), (0, 15)]
'''

STAGE_8 = '''
>>> from letdays.lots import Lots, choice, cut, is_sure, left
>>> from letdays.turns import stuck, turns
>>> lots = Lots([("x", ["f", "g"], 1), ("y", ["g", "h"], 1), ("z", ["f", "g", "h"], 1)])
>>> [left(lots, "z", ["x", "y"]), is_sure(lots, "z", ["x", "y"]), is_sure(lots, "x", ["y", "z"]), stuck(lots)]
[1, True, False, None]
>>> [list(turns(lots)), choice(Lots([("x", ["f"], 1), ("y", ["f"], 1)])), cut(Lots([("x", ["f"], 1), ("y", ["f"], 1)]))]
[[['x', 'y', 'z'], ['y', 'x', 'z']], None, ['x', 'y']]
'''

STAGE_9 = r'''
>>> from letdays.claims import is_true
>>> from letdays.desk import Desk
>>> from letdays.texts import line_of, read_book, text_of
>>> lines = ["deal a hale f l hall x 0 x 9 alone 3", "deal b iver f l hall x 10 x 19 alone 4", "deal c hale f l hall day 12 day 20 alone 5"]
>>> text = "".join([line + "\n" for line in ["moments x", "clause day x 0", "clause x day 30"] + lines])
>>> book = read_book(text)
>>> desk = Desk(book)
>>> [text_of(book) == text, desk.do("word a b"), desk.do("price"), desk.do("bound x day"), desk.do("know x 30"), desk.do("back"), desk.do("undo")]
[True, 'never', '5', '30', 'done', 'safe', '0']
>>> [line_of(book["a"]) == lines[0], desk.do("drop c"), desk.do("chain f l hall"), is_true({"claim": "safe", "book": "moments\n"})]
[True, 'deal c hale f l hall day 12 day 20 alone 5', '7', True]
'''

STAGES = [STAGE_1, STAGE_2, STAGE_3, STAGE_4, STAGE_5, STAGE_6, STAGE_7, STAGE_8, STAGE_9]


OVERVIEW = '''
>>> from letdays.books import Book
>>> from letdays.calendars import Calendar
>>> from letdays.deals import Deal
>>> from letdays.pairs import word
>>> from letdays.together import is_together_paper
>>> calendar = Calendar(["first"], [("first", "day", 40), ("day", "first", -10)])
>>> halls = Deal("halls", "h", ["f"], ["l"], ["hall"], ("first", 0), ("first", 29))
>>> discs = Deal("discs", "h", ["f"], ["l"], ["disc"], ("first", 30), ("day", 100))
>>> net = Deal("net", "h", ["f"], ["l"], ["net"], ("day", 60), ("day", 90))
>>> book = Book(calendar, [halls, discs, net])
>>> [word(book, "halls", "discs"), word(book, "discs", "net"), word(book, "halls", "net")]
['never', 'surely', 'perhaps']
>>> [is_together_paper(book, ["halls", "net"], ({"first": day}, 60)) for day in (30, 31, 32, 40, 41)]
[False, True, True, True, False]
'''


class Examples(unittest.TestCase):
    def test_overview(self):
        told = []
        test = doctest.DocTestParser().get_doctest(OVERVIEW, {}, "DOC.md", "DOC.md", 0)
        failed, tried = doctest.DocTestRunner(verbose=False).run(test, out=told.append)
        self.assertEqual((failed, tried), (0, 12), "".join(told))

    def run_examples(self, count):
        """Run so many stages, one behind another: names stand for what they were in the last example."""
        told = []
        test = doctest.DocTestParser().get_doctest("\n".join(STAGES[:count]), {}, "DOC.md", "DOC.md", 0)
        failed, tried = doctest.DocTestRunner(verbose=False).run(test, out=told.append)
        self.assertGreater(tried, 3 * count)
        self.assertEqual(failed, 0, "".join(told))

    def test_stage_1(self):
        self.run_examples(1)

    def test_stage_2(self):
        self.run_examples(2)

    def test_stage_3(self):
        self.run_examples(3)

    def test_stage_4(self):
        self.run_examples(4)

    def test_stage_5(self):
        self.run_examples(5)

    def test_stage_6(self):
        self.run_examples(6)

    def test_stage_7(self):
        self.run_examples(7)

    def test_stage_8(self):
        self.run_examples(8)

    def test_stage_9(self):
        self.run_examples(9)
