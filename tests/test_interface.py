"""The interface: what stands in which file, under which name, with which parameters."""

import importlib
import inspect

from tests.support import Case

CALENDAR = "calendar, one, other"
PAIR = "book, one, other"
CELL, NAMES, VALUE, BOOK, LOTS = "book, cell", "book, names", "book, value", "book", "lots"
POINT, MOMENT = "book, cell, point, alone=True", "book, cell, moment, alone=True"
OTHERS = "lots, house, others"

FUNCTIONS = {
    "closing": {
        "bound": CALENDAR, "row": CALENDAR, "bounds": "calendar", "span": "calendar, point, other",
        "reaching": CALENDAR,
        "dates_with": "calendar, point, other, number", "needless": "calendar", "least_clauses": "calendar",
        "are_alike": "one, other", "parting_dates": "one, other", "all_dates": "calendar, first, last"},
    "diaries": {
        "is_dates": VALUE, "on_at": "book, dates, cell, day", "diary": "book, dates, cell",
        "busiest": "book, dates, cell",
        "clashes": "book, dates"},
    "pairs": {
        "word": PAIR, "clash": PAIR, "words": BOOK, "reach": PAIR, "apart_paper": PAIR, "together_paper": PAIR,
        "surely_paper": PAIR, "is_apart_paper": PAIR + ", value", "is_surely_paper": PAIR + ", value",
        "dates_apart": PAIR},
    "together": {
        "all_on": NAMES, "is_together_paper": NAMES + ", value", "first_apart": NAMES, "are_surely_on": NAMES,
        "is_safe": BOOK, "open_pairs": BOOK, "quiet_dates": BOOK, "is_quiet": "book, dates", "tree": BOOK,
        "is_tree": VALUE},
    "order": {
        "is_ahead": PAIR, "ahead_row": PAIR, "is_ahead_row": PAIR + ", value", "all_ahead": "book, name",
        "all_behind": "book, name", "direct_pairs": BOOK, "least_gap": PAIR, "in_sequence": NAMES},
    "crowds": {
        "is_crowd": VALUE, "is_chain": VALUE, "is_roster": NAMES + ", value", "greatest_crowd": NAMES,
        "least_roster": NAMES,
        "most_at_once": NAMES, "heights": NAMES, "layers": NAMES, "longest_chain": NAMES, "at_most_paper": NAMES,
        "is_at_most_paper": NAMES + ", value"},
    "keeping": {
        "chain_price": CELL, "crowd_price": CELL, "dearest_chain": CELL, "dearest_crowd": CELL, "charge": CELL,
        "cover": CELL, "is_charge": CELL + ", value", "is_cover": CELL + ", value"},
    "buying": {
        "is_back": VALUE, "least_back": BOOK, "least_price": BOOK, "spare_backs": BOOK, "premium": "book, name",
        "is_loads": VALUE, "loads": BOOK, "sides": BOOK, "odd_ring": BOOK, "is_odd_ring": VALUE,
        "to_buy": "book, deal"},
    "windows": {
        "barred": "book, name, moment", "held": "book, name, moment", "free_stretches": MOMENT,
        "taken_stretches": MOMENT,
        "is_free": POINT, "room_at": POINT, "earliest": "book, cell, point, long, alone=True", "bar_at": POINT,
        "clearing_at": POINT, "is_bar": "book, cell, point, value, alone=True",
        "is_clearing": "book, cell, point, value, alone=True"},
    "boxes": {
        "barred_delays": "book, name, offer", "free_delays": "book, offer", "least_delay": "book, offer, since=0",
        "greatest_boxes": "book, film, lands, ways, moment, alone=True",
        "is_free_box": "book, film, value, moment, alone=True"},
    "rights": {
        "slack": PAIR, "slacks": BOOK, "with_rights": "book, rights", "is_safe_with": "book, rights",
        "unsafe_use": "book, rights", "is_unsafe_use": "book, rights, value", "room": "book, name", "rooms": BOOK,
        "play": "book, position", "loosened": "book, position, days", "tight_pair": "book, position"},
    "changes": {
        "learnt": "book, moment, day", "days_of": "book, moment", "put_ahead": PAIR, "can_be_ahead": PAIR,
        "split_land": "book, land, parts"},
    "lots": {
        "is_choice": "lots, value", "is_cut": "lots, value", "is_taking": "lots, value", "choice": LOTS, "cut": LOTS,
        "most_taken": LOTS, "taking": LOTS, "left": OTHERS, "is_sure": OTHERS, "worst_taking": OTHERS, "cover": OTHERS,
        "is_cover": OTHERS + ", value"},
    "turns": {
        "is_safe_turn": "lots, value", "is_stuck": "lots, value", "safe_turn": LOTS, "stuck": LOTS, "turns": LOTS},
    "showings": {
        "covering": "book, dates, showing", "surely_covering": "book, showing",
        "is_plan": "book, dates, counts, showings, value", "is_lack": "book, dates, counts, showings, value",
        "plan": "book, dates, counts, showings", "lack": "book, dates, counts, showings",
        "most_shown": "book, dates, counts, showings", "is_sure_plan": "book, counts, showings, value",
        "sure_plan": "book, counts, showings", "sure_lack": "book, counts, showings"},
    "texts": {"text_of": BOOK, "read_book": "text", "line_of": "deal", "read_deal": "line"},
    "claims": {"is_claim": "value", "is_true": "claim", "paper_for": "claim", "is_paper": "claim, value"},
}

GENERATORS = ["closing.all_dates", "order.in_sequence", "buying.spare_backs", "turns.turns"]

# The parameters of the constructor; properties; methods with their parameters; signs.
CLASSES = {
    "calendars.Calendar": (
        "moments, clauses=()", [],
        {"moments": "", "clauses": "", "is_ring": "value", "is_row": "one, other, value", "has_dates": "", "ring": "",
         "dates": "", "with_clause": "clause", "without": "position", "known": "moment, day"},
        ["len", "iter", "contains", "or", "eq", "repr"]),
    "deals.Deal": (
        "name, house, films, lands, ways, begin, end, *, alone=True, price=1",
        ["name", "house", "films", "lands", "ways", "begin", "end", "alone", "price"],
        {"cells": "", "moments": "", "own_clause": "", "named": "name", "of_house": "house", "priced": "price",
         "beside": "", "moved": "days", "days": "dates", "is_on": "dates, day", "touches": "other"},
        ["len", "contains", "and", "eq", "repr"]),
    "books.Book": (
        "calendar, deals", ["calendar"],
        {"names": "", "clauses": "", "full": "", "houses": "", "cells": "", "at": "cell", "touching": "",
         "with_deal": "deal", "without": "*names", "only_of": "house", "with_calendar": "calendar"},
        ["len", "contains", "iter", "getitem", "eq", "repr"]),
    "order.Order": ("book", ["book"], {}, ["contains", "len", "iter", "getitem", "eq"]),
    "crowds.Screens": (
        "book, names", ["book"], {"paper": "", "screen_of": "name", "shown": "dates, day"},
        ["len", "getitem", "contains"]),
    "keeping.Priced": (
        "book, cell", ["book", "cell"], {"use": "cell", "prices": "", "papers": ""}, ["len", "contains", "iter", "eq"]),
    "buying.Back": (
        "book, names=()", ["book", "bought", "price"], {"is_enough": "", "left": ""},
        ["or", "and", "sub", "len", "contains", "eq", "repr"]),
    "windows.Window": (
        "stretches", ["stretches"], {}, ["contains", "iter", "and", "or", "sub", "neg", "add", "radd", "eq", "repr"]),
    "lots.Lots": (
        "lots", [],
        {"all_houses": "", "all_films": "", "without": "house", "chosen": "house, films"},
        ["getitem", "len", "contains", "iter", "eq", "repr"]),
    "desk.Desk": (
        "book", ["book", "many"], {"do": "command", "do_all": "*commands", "log": "", "copy": ""},
        ["call", "enter", "exit", "eq"]),
}


def parameters(call):
    """The parameters of a function, or of a method without its object, as the interface writes them."""
    told = str(inspect.signature(call))[1:-1]
    return told.removeprefix("self").removeprefix(", ")


class Interface(Case):
    def test_functions(self):
        for file, table in FUNCTIONS.items():
            module = importlib.import_module("letdays." + file)
            for name, told in table.items():
                function = getattr(module, name)
                self.assertTrue(inspect.isfunction(function), name)
                self.same([function.__module__, function.__name__, parameters(function)],
                          ["letdays." + file, name, told])
                self.assertIs(inspect.isgeneratorfunction(function), f"{file}.{name}" in GENERATORS)

    def test_classes(self):
        for place, (told, properties, methods, signs) in CLASSES.items():
            file, name = place.split(".")
            found = getattr(importlib.import_module("letdays." + file), name)
            self.same([found.__module__, found.__name__], ["letdays." + file, name])
            self.same(parameters(found.__init__), told)
            for one in properties:
                self.assertIs(type(vars(found)[one]), property)
            for one, asked in methods.items():
                self.same(parameters(vars(found)[one]), asked)
            for sign in signs:
                self.assertTrue(inspect.isfunction(vars(found)[f"__{sign}__"]), sign)

    def test_class_values(self):
        calendar = importlib.import_module("letdays.calendars").Calendar
        self.same([calendar.MOST_MOMENTS, calendar.MOST_CLAUSES, calendar.ZERO], [8, 40, "day"])
        self.assertIs(type(vars(calendar)["is_clause"]), staticmethod)
        self.same(parameters(calendar.is_clause), "value")

    def test_calls_of_a_desk(self):
        desk = importlib.import_module("letdays.desk").Desk
        self.same(parameters(desk.__call__), "commands")

    def test_only_those_are_iterated_over(self):
        for place in ("deals.Deal", "crowds.Screens", "buying.Back", "desk.Desk"):
            file, name = place.split(".")
            found = getattr(importlib.import_module("letdays." + file), name)
            with self.assertRaises(TypeError):
                iter(found.__new__(found))
