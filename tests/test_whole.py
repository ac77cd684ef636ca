"""The whole program: whatever road is taken, the verdict is the same at all codes, and nothing is changed on the way."""

import copy
import itertools
import random
import unittest

from helpers import (
    CLASH, GREAT, NONE, RefusalCase, age_table, all_codes, fee_table, plain_bounds, plain_fact_bounds, plain_needs,
    plain_verdict, plain_verdicts, rough_book, say, spans_of, table_of_200_rows, wide_table, words_table,
)
from rowjudge.asking import ask, ask_codes, fact_codes, trail
from rowjudge.best import best, ledger
from rowjudge.books import Book, asks, needs, order_of, table_of
from rowjudge.errors import Clash, Hole, TooFine
from rowjudge.finds import (
    changes, clashes, first_unlike, holes, idle, reason, same_everywhere, without_row,
)
from rowjudge.forms import boxes, corner, look, mapped, marks_of
from rowjudge.layers import row_form, table_bounds, table_marks, tiling, verdict_form
from rowjudge.reading import head_text, read_book, row_text, show_book
from rowjudge.report import change_lines, report, table_lines
from rowjudge.spreads import rows_of, spread
from rowjudge.tables import answer, coded, fits, judged, mask, verdict, with_rows
from rowjudge.trees import leaves, path, price, questions, walk
from rowjudge.turns import apart, knit, parted, stacked, thinned, turned
from rowjudge.unfold import book_bounds, book_form, book_marks, compared, flat

TEXT = "\n".join([
    "fact hue red, green, blue",
    "fact age 0..120",
    "fact size -3..3",
    "fact idle x, y",
    "table due: fee, age -> red, green, blue by first",
    "when ..5 | - -> blue",
    "when 20 | 18..90 -> green",
    "when 20.. | 40..50 -> red",
    "table fee: age, hue -> 0..50 by sum",
    "when ..17 | not green -> 5",
    "when 10..64 | red -> 20",
    "when 10..64 | blue -> 20",
    "when not - | - -> 9",
    "table odd: size, due -> 0..9 by like",
    "when ..-1 | - -> 1",
    "when 0.. | blue -> 7",
    "when 2.. | not green -> 7",
])


def roads_of_a_table(table):
    # Name and verdict of each road on which a table by itself may be judged, told codes.
    form = verdict_form(table)
    deep = len(table.names)
    yield "rows", lambda codes: verdict(table, codes)
    yield "mask", lambda codes: judged(table, mask(table, codes))
    yield "form", lambda codes: look(form, codes)
    yield "row form", lambda codes: judged(table, look(row_form(table), codes))
    yield "boxes", box_road(boxes(form, deep))
    yield "thinned", lambda codes: verdict(thinned(table), codes)
    yield "knit", lambda codes: verdict(knit(table), codes)
    yield "knit and thinned", lambda codes: verdict(thinned(knit(table)), codes)
    order = list(reversed(range(deep)))
    other = turned(table, order)
    yield "turned", lambda codes: verdict(other, [codes[column] for column in order])
    yield "turned form", lambda codes: look(verdict_form(other), [codes[column] for column in order])
    tree = told_tree(table)
    if tree is not None:
        yield "tree", lambda codes: walk(tree, codes)
        yield "leaves", box_road(leaves(tree, table_bounds(table)))
    if not clashes(table):
        out = spread(table)
        yield "spread", lambda codes: verdict(out, codes)
        for column, domain in enumerate(table.domains):
            spans = spans_of(range(domain.low, min(domain.high, domain.low + 60) + 1, 2))
            yield "parted and stacked", stacked_road(out, column, spans)
    if table.way not in ("first",):
        # But for `first`, a row's place is all the same.
        yield "rows parted and stacked", stacked_road(table, 0, [(table.domains[0].low, table.domains[0].low)])


def told_tree(table):
    try:
        return best(table)[1]
    except TooFine:
        return None


def box_road(told):
    def road(codes):
        found = [leaf for box, leaf in told if all(low <= code <= high for (low, high), code in zip(box, codes))]
        return found[0] if len(found) == 1 else found

    return road


def stacked_road(table, column, spans):
    inside, outside = parted(table, column, spans)
    whole = stacked(inside, outside)
    return lambda codes: verdict(whole, codes)


class SameVerdicts(RefusalCase):
    def assert_roads(self, table, every=None):
        roads = list(roads_of_a_table(table))
        for codes in every or all_codes(plain_bounds(table)):
            due = plain_verdict(table, codes)
            for name, road in roads:
                self.assertEqual(road(list(codes)), due, (name, codes, table.way, table.rows))
        return [name for name, road in roads]

    def assert_unfolded(self, book, name):
        # ask, ask_codes, book_form, flat, and all that can be made of flat.
        domains = dict(book.facts)
        needed = plain_needs(book, name)
        form = book_form(book, name)
        dues = plain_verdicts(book, name)
        for codes, due in dues:
            facts = {fact: domains[fact].worth(code) for fact, code in zip(needed, codes)}
            self.assertEqual(ask(book, name, facts), due)
            self.assertEqual(trail(book, name, facts)[-1][3], due)
            self.assertEqual(ask_codes(book, name, codes), due)
            self.assertEqual(look(form, codes), due)
        if any(due == CLASH for codes, due in dues):
            self.assert_refused(Clash, flat, book, name)
            return False
        table = flat(book, name)
        self.assertEqual(verdict_form(table), form)
        self.assert_roads(table)
        for codes, due in dues:
            self.assertEqual(verdict(table, codes), due)
            values = [domain.worth(code) for domain, code in zip(table.domains, codes)]
            if due == NONE:
                self.assert_refused(Hole, answer, table, values)
            else:
                self.assertEqual(answer(table, values), table.outcome.worth(due[1]))
        return True

    def test_roads_of_plain_tables(self):
        names = []
        for way in ("first", "only", "like", "low", "high", "sum"):
            corners = [list(codes) for codes in itertools.product([0, 9, 10, 17, 18, 64, 65, 120], [0, 1, 2])]
            names += self.assert_roads(fee_table(way), corners)
        self.assertIn("tree", names)
        self.assertIn("spread", names)

    def test_roads_of_great_tables(self):
        ends = [-GREAT, -8, -7, 0, 1, 4, 5, 6, GREAT - 1, GREAT]
        for way in ("first", "sum", "only", "like"):
            self.assert_roads(wide_table(way), [list(codes) for codes in itertools.product(ends[:1] + ends[5:], ends)])
        self.assert_roads(words_table("only"))

    def test_roads_of_rough_books(self):
        for seed in range(25):
            for table in rough_book(seed).tables:
                self.assert_roads(table)

    def test_plain_book(self):
        book = read_book(TEXT)
        self.assertTrue(self.assert_unfolded(book, "fee"))
        self.assertTrue(self.assert_unfolded(book, "due"))
        told = [verdict for codes, verdict in plain_verdicts(book, "odd")]
        self.assertEqual({kind for kind, code in told}, {"say", "none"})
        self.assertTrue(self.assert_unfolded(book, "odd"))

    def test_rough_books(self):
        unfolded = [self.assert_unfolded(book, table.name)
                    for book in [rough_book(seed) for seed in range(40)] for table in book.tables]
        self.assertGreater(sum(unfolded), 40)
        self.assertLess(sum(unfolded), len(unfolded))

    def test_flat_in_the_place_of_the_table(self):
        # A book in which one table is unfolded answers as the whole one.
        book = read_book(TEXT)
        tables = [flat(book, table.name) if table.name == "due" else table for table in book.tables]
        other = Book(book.facts, tables)
        for name in ("due", "odd", "fee"):
            self.assertEqual(compared(book, other, name), [])
            self.assertEqual(change_lines(other, book, name), [])
            self.assertEqual(book_form(book, name), book_form(other, name))

    def test_books_of_tables_in_another_dress(self):
        # Not turned ones: where two columns say nothing, their order tells which verdict goes through.
        for seed in range(40):
            book = rough_book(seed)
            for dress in (thinned, knit, lambda table: table if clashes(table) else spread(table)):
                other = Book(book.facts, [dress(table) for table in book.tables])
                again = read_book(show_book(other))
                for table in book.tables:
                    self.assertEqual(compared(book, other, table.name), [])
                    self.assertEqual(compared(book, again, table.name), [])

    def test_read_books_answer_alike(self):
        for seed in range(60):
            book = rough_book(seed)
            again = read_book(show_book(book))
            for table in book.tables:
                self.assertEqual(book_form(again, table.name), book_form(book, table.name))
            self.assertEqual(report(again), report(book))

    def test_what_is_told_of_all_codes_is_there(self):
        for seed in range(40):
            for table in rough_book(seed).tables:
                every = all_codes(plain_bounds(table))
                kinds = {"none": holes(table), "clash": [box for box, rows in clashes(table)]}
                for kind, told in kinds.items():
                    held = [codes for codes in every if plain_verdict(table, codes)[0] == kind]
                    found = [codes for box in told for codes in all_codes(box)]
                    self.assertEqual(sorted(found), held)
                for k in range(len(table.rows)):
                    other = without_row(table, k)
                    unlike = [codes for codes in every if plain_verdict(table, codes) != plain_verdict(other, codes)]
                    self.assertEqual(reason(table, k), unlike[0] if unlike else None)
                    self.assertEqual(k in idle(table), not unlike)
                    self.assertEqual(first_unlike(table, other), unlike[0] if unlike else None)
                    self.assertEqual(same_everywhere(table, other), not unlike)


def shown(value):
    # All that can be read of a value, down to the fields of its objects.
    if isinstance(value, (list, tuple)):
        return (type(value).__name__, [shown(part) for part in value])
    if isinstance(value, dict):
        return ("dict", [(shown(key), shown(part)) for key, part in value.items()])
    if hasattr(value, "__dict__"):
        return (type(value).__name__, shown(vars(value)))
    return value


def spoil(value):
    # Lists and dicts are emptied, those within others and within new tables and books too, but no domain.
    if isinstance(value, (list, tuple)):
        for part in list(value):
            spoil(part)
    if isinstance(value, dict):
        for part in list(value.values()):
            spoil(part)
    if isinstance(value, (list, dict)):
        value.clear()


def spoil_table(table):
    for cells, code in table.rows:
        spoil(cells)
    for some in (table.rows, table.names, table.domains):
        some.clear()


def calls_of_a_book():
    # Each function that takes a book, with what it is handed beside it.
    facts = {"hue": "red", "age": 12, "size": 2, "more": None}
    other = read_book(TEXT.replace("90", "70"))
    return [
        (show_book, []), (report, []), (table_of, ["odd"]), (asks, ["odd"]), (order_of, ["odd"]), (needs, ["odd"]),
        (fact_codes, ["odd", facts]), (trail, ["odd", facts]), (ask, ["odd", facts]), (ask_codes, ["odd", [0, 12, 2]]),
        (book_bounds, ["odd"]), (book_marks, ["odd"]), (book_form, ["odd"]), (flat, ["odd"]), (compared, [other, "odd"]),
        (change_lines, [other, "odd"]),
    ]


def calls_of_a_table():
    tree = ("ask", 0, 18, ("say", say(5)), ("ask", 1, 1, ("say", say(20)), ("say", NONE)))
    other = fee_table("first")
    return [
        (head_text, []), (row_text, [1]), (table_lines, []), (table_bounds, []), (table_marks, []), (row_form, []),
        (verdict_form, []), (tiling, []), (holes, []), (clashes, []), (without_row, [1]), (reason, [0]), (idle, []),
        (first_unlike, [other]), (same_everywhere, [other]), (changes, [other]), (ledger, [[2, 3]]), (best, [[2, 3]]),
        (thinned, []), (knit, []), (apart, []), (parted, [0, [(0, 20), (60, 70)]]), (stacked, [fee_table("low")]),
        (turned, [[1, 0]]), (spread, []), (fits, [1, [12, 0]]), (mask, [[12, 0]]), (judged, [3]), (verdict, [[12, 0]]),
        (coded, [[12, "red"]]), (answer, [[12, "red"]]), (with_rows, [[([[(5, 5)], [(0, 0)]], 1)]]),
        (lambda table, some: [walk(tree, some), path(tree, some), questions(tree), price(tree, [3, 4])], [[40, 0]]),
        (lambda table, bounds: leaves(tree, bounds), [[(0, 120), (0, 2)]]),
        (lambda table: [marks_of(verdict_form(table), 2), mapped(verdict_form(table), 2, lambda leaf: 0)], []),
        (lambda table: [corner(box) for box in holes(table)], []), (lambda table: rows_of(verdict_form(table), 2), []),
    ]


class NothingIsChanged(RefusalCase):
    def assert_kept(self, make, calls):
        for call, given in calls:
            thing = make()
            before = shown(thing)
            handed = shown(given)
            due = shown(call(thing, *given))
            self.assertEqual(shown(thing), before, call)
            self.assertEqual(shown(given), handed, call)
            for turn in range(2):
                self.assertEqual(shown(call(thing, *given)), due, call)
            self.assertEqual(shown(call(make(), *given)), due, call)

    def assert_own(self, make, calls):
        for call, given in calls:
            thing = make()
            before = shown(thing)
            due = shown(call(thing, *given))
            told = call(thing, *given)
            for part in told if isinstance(told, tuple) else [told]:
                if call != table_of and hasattr(part, "rows"):
                    spoil_table(part)
                else:
                    spoil(part)
            self.assertEqual(shown(thing), before, call)
            self.assertEqual(shown(call(thing, *given)), due, call)

    def assert_free_of_what_was_handed_in(self, make, calls):
        # What was told stays, whatever is done to the lists and dicts that were handed in.
        for call, given in calls:
            handed = copy.deepcopy(given)
            told = call(make(), *handed)
            due = shown(told)
            spoil([part for part in handed if isinstance(part, (list, dict))])
            self.assertEqual(shown(told), due, call)

    def test_books(self):
        self.assert_kept(lambda: read_book(TEXT), calls_of_a_book())
        self.assert_own(lambda: read_book(TEXT), calls_of_a_book())
        self.assert_free_of_what_was_handed_in(lambda: read_book(TEXT), calls_of_a_book())

    def test_tables(self):
        self.assert_kept(lambda: fee_table("low"), calls_of_a_table())
        self.assert_own(lambda: fee_table("low"), calls_of_a_table())
        self.assert_free_of_what_was_handed_in(lambda: fee_table("low"), calls_of_a_table())

    def test_order_of_askings_is_all_the_same(self):
        chance = random.Random(7)
        book = read_book(TEXT)
        calls = calls_of_a_book()
        due = [shown(call(read_book(TEXT), *given)) for call, given in calls]
        for turn in range(5):
            order = list(range(len(calls)))
            chance.shuffle(order)
            for k in order:
                call, given = calls[k]
                self.assertEqual(shown(call(book, *given)), due[k], call)


class AtTheBounds(RefusalCase):
    def test_200_rows_in_a_book(self):
        for way in ("first", "sum", "low"):
            table = table_of_200_rows(way)
            book = Book(list(zip(table.names, table.domains)), [table])
            again = read_book(show_book(book))
            self.assertEqual(len(again.tables[0].rows), 200)
            self.assertEqual(book_form(again, "many"), verdict_form(table))
            self.assertEqual(report(again), table_lines(table))

    def test_facts_of_60_figures(self):
        table = wide_table("low")
        book = Book(list(zip(table.names, table.domains)), [table])
        again = read_book(show_book(book))
        unfolded = flat(again, "wide")
        for codes in itertools.product([-GREAT, -7, 0, 5, 6, GREAT], repeat=2):
            due = plain_verdict(table, list(codes))
            self.assertEqual(ask(again, "wide", dict(zip(["a", "b"], codes))), due)
            self.assertEqual(verdict(unfolded, list(codes)), due)

    def test_one_code(self):
        book = read_book("fact a 7..7\ntable t: a -> so by only\nwhen - -> so")
        self.assertEqual(book_form(book, "t"), ((7, 7, say(0)),))
        self.assertEqual(flat(book, "t").rows, [([[(7, 7)]], 0)])
        self.assertEqual(best(flat(book, "t")), (0, ("say", say(0))))
        self.assertEqual(report(book), ["table t"])
        self.assertEqual(ask(book, "t", {"a": 7}), say(0))

    def test_table_of_no_verdict(self):
        table = age_table("first", [])
        book = Book([("age", table.domains[0])], [table])
        self.assertEqual(flat(book, "t").rows, [])
        self.assertEqual(plain_fact_bounds(book, "t"), book_bounds(book, "t"))
        self.assertEqual(report(book), ["table t", "hole -"])


if __name__ == "__main__":
    unittest.main()
