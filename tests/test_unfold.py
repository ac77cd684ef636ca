import copy
import itertools
import random
import unittest

from helpers import (
    AGE, CLASH, GRAINS_ABOVE_300, GRAINS_OF_300, GREAT, HUE, NONE, BoxCase, FormCase, TurnCase, all_codes,
    alternate_spans, book_state, counted_table, due_text, fee_table, many_words, plain_ask, plain_fact_bounds, plain_needs,
    plain_verdict, plain_verdicts, rough_book, rough_rows, say, table_of_200_rows, wide_table, words_table,
)
from rowjudge.asking import ask_codes
from rowjudge.books import Book, table_of
from rowjudge.domains import Numbers, alike
from rowjudge.errors import Clash, NoTable, TooFine, TooMany, Unlike
from rowjudge.finds import changes
from rowjudge.forms import boxes, grain, look
from rowjudge.layers import table_bounds, table_marks, verdict_form
from rowjudge.reading import read_book
from rowjudge.spans import edges, stretches
from rowjudge.spreads import spread
from rowjudge.tables import Table, with_rows
from rowjudge.turns import apart
from rowjudge.unfold import book_bounds, book_form, book_marks, compared, flat

TEXT = due_text("first", "only")
BOOK = read_book(TEXT)
NO_NAMES = ("nowhere", "hue", "", "Due", "due ", "not")
GRAIN = Numbers(0, 500)


def alone(table):
    # A book of one table and the facts that it needs.
    return Book(list(zip(table.names, table.domains)), [table])


def share_table(name, fact, count):
    # Says 1 and 0 in turns: so the fact falls into that many stretches.
    rows = [([spans], 1) for spans in alternate_spans(0, 500, list(range(1, count)))]
    return Table(name, [fact], [GRAIN], Numbers(0, 1), "first", rows + [([[(0, 500)]], 0)])


def joining_table(name, asked):
    # Each column counts twice as much as the one behind it; asked: pairs of a name and its outcome.
    domains = [domain for column, domain in asked]
    rows = [([domain.whole() for domain in domains], 0)]
    worth = 1
    for k, domain in reversed(list(enumerate(domains))):
        for code in range(1, domain.high + 1):
            cells = [[(code, code)] if k == j else other.whole() for j, other in enumerate(domains)]
            rows.append((cells, worth * code))
        worth *= domain.high + 1
    return Table(name, [column for column, domain in asked], domains, Numbers(0, worth - 1), "sum", rows)


def book_of_grain(counts, behind=()):
    # A fact for each count, needed for `top`; its verdict tells all the stretches apart that neighbour one another.
    names = many_words(len(counts))
    shares = [share_table("t" + name, name, count) for name, count in zip(names, counts)]
    asked = [(table.name, Numbers(0, 1)) for table in shares]
    tables = list(shares)
    while len(asked) > 4:
        joint = joining_table("j" + many_words(len(tables))[-1], asked[:4])
        tables.append(joint)
        asked = [(joint.name, joint.outcome)] + asked[4:]
    return Book([(name, GRAIN) for name in names], [joining_table("top", asked)] + tables + list(behind))


def altered(book, seed):
    # The same but for some tables' rows and ways.
    chance = random.Random(seed)
    tables = []
    for table in book.tables:
        if chance.random() < 0.5:
            tables.append(table)
        else:
            way = chance.choice(["first", "only", "like", "low", "high"])
            rows = rough_rows(chance, table.domains, table.outcome)
            tables.append(Table(table.name, table.names, table.domains, table.outcome, way, rows))
    return Book(book.facts, tables)


class BoundsAndMarks(FormCase):
    def test_plain(self):
        self.assertEqual(book_bounds(BOOK, "fee"), [(0, 2), (0, 120)])
        self.assertEqual(book_bounds(BOOK, "odd"), [(0, 2), (0, 120), (-3, 3)])
        self.assertEqual(book_marks(BOOK, "fee"), [[1, 2], [10, 18, 65]])
        self.assertEqual(book_marks(BOOK, "due"), [[1, 2], [10, 18, 65, 91]])
        self.assertEqual(book_marks(BOOK, "odd"), [[1, 2], [10, 18, 65, 91], [0, 2]])

    def test_kinds(self):
        self.assert_kinds(book_bounds(BOOK, "odd"), [(int, int)])
        self.assert_kinds(book_marks(BOOK, "odd"), [[int]])

    def test_no_such_table(self):
        for name in NO_NAMES:
            for call in (book_bounds, book_marks, book_form, flat):
                self.assert_refused(NoTable, call, BOOK, name)
                self.assert_refused(NoTable, call, Book([], []), name)

    def test_one_table(self):
        for table in (fee_table(), wide_table(), words_table(), table_of_200_rows()):
            book = alone(table)
            self.assertEqual(book_bounds(book, table.name), table_bounds(table))
            self.assertEqual(book_marks(book, table.name), table_marks(table))

    def test_in_the_order_of_the_book(self):
        table = fee_table()
        book = Book([("hue", HUE), ("age", AGE)], [table])
        self.assertEqual(book_bounds(book, "fee"), table_bounds(table)[::-1])
        self.assertEqual(book_marks(book, "fee"), table_marks(table)[::-1])

    def test_facts_and_tables_that_are_not_needed(self):
        more = read_book(TEXT + "\nfact more 0..9\ntable other: age, more, hue -> 0..1 by first\nwhen 33 | 3 | green -> 1")
        for name in ("fee", "due", "odd"):
            self.assertEqual(book_bounds(more, name), book_bounds(BOOK, name))
            self.assertEqual(book_marks(more, name), book_marks(BOOK, name))
        self.assertEqual(book_marks(more, "other"), [[1, 2], [33, 34], [3, 4]])

    def test_columns_that_are_tables_give_no_marks(self):
        text = "fact a 0..9\ntable t: a -> 0..9 by first\ntable u: t, a -> 0..9 by first\nwhen 3..4 | - -> 1\nwhen 7 | 6 -> 1"
        self.assertEqual(book_marks(read_book(text), "u"), [[6, 7]])

    def test_no_rows(self):
        book = alone(fee_table("first", []))
        self.assertEqual(book_marks(book, "fee"), [[], []])
        self.assertEqual(book_form(book, "fee"), ((0, 120, ((0, 2, NONE),)),))

    def test_rough_books(self):
        for seed in range(150):
            book = rough_book(seed)
            for table in book.tables:
                needed = plain_needs(book, table.name)
                self.assertEqual(book_bounds(book, table.name), plain_fact_bounds(book, table.name))
                marks = {fact: set() for fact in needed}
                for other in book.tables:
                    if other.name in reached(book, table.name):
                        for column, (name, domain) in enumerate(zip(other.names, other.domains)):
                            if name in marks:
                                for cells, code in other.rows:
                                    marks[name].update(edges(cells[column], domain.low, domain.high))
                self.assertEqual(book_marks(book, table.name), [sorted(marks[fact]) for fact in needed])


def reached(book, name):
    names = {name}
    for turn in book.tables:
        names |= {column for table in book.tables if table.name in names for column in table.names}
    return names


class FormOfABook(FormCase):
    def test_plain(self):
        form = book_form(BOOK, "due")
        self.assertEqual(form, (
            (0, 0, ((0, 17, say(2)), (18, 64, say(1)), (65, 120, NONE))),
            (1, 1, ((0, 120, NONE),)),
            (2, 2, ((0, 17, say(2)), (18, 120, NONE))),
        ))

    def test_one_table(self):
        for table in (fee_table(), fee_table("only"), fee_table("like"), wide_table(), words_table(), table_of_200_rows()):
            self.assertEqual(book_form(alone(table), table.name), verdict_form(table))

    def test_at_every_stretch(self):
        for name in ("fee", "due", "odd"):
            form = book_form(BOOK, name)
            bounds = book_bounds(BOOK, name)
            self.assert_form(form, bounds)
            facts = plain_needs(BOOK, name)
            columns = [stretches(low, high, marks) for (low, high), marks in zip(bounds, book_marks(BOOK, name))]
            for box in itertools.product(*columns):
                for codes in itertools.product(*box):
                    due = plain_ask(BOOK, name, dict(zip(facts, codes)))
                    self.assertEqual(look(form, list(codes)), due)
                    self.assertEqual(ask_codes(BOOK, name, list(codes)), due)

    def test_rough_books_code_by_code(self):
        for seed in range(150):
            book = rough_book(seed)
            for table in book.tables:
                form = book_form(book, table.name)
                self.assert_form(form, plain_fact_bounds(book, table.name))
                for codes, due in plain_verdicts(book, table.name):
                    self.assertEqual(look(form, codes), due)

    def test_6_facts_and_7(self):
        for count in (1, 2, 3, 4, 5, 6):
            book = book_of_grain([2] * count)
            form = book_form(book, "top")
            self.assert_form(form, [(0, 500)] * count)
            for bits in itertools.product([0, 1], repeat=count):
                due = say(int("".join(map(str, bits)), 2))
                self.assertEqual(look(form, list(bits)), due)
                self.assertEqual(look(form, [500 if bit else 0 for bit in bits]), due)
        for count in (7, 8):
            self.assert_refused(TooMany, book_form, book_of_grain([1] * count), "top")
            self.assert_refused(TooMany, book_form, book_of_grain([2] * count), "top")

    def test_facts_that_are_not_needed_do_not_count(self):
        book = book_of_grain([1] * 8)
        self.assert_refused(TooMany, book_form, book, "top")
        self.assert_refused(TooMany, flat, book, "top")
        self.assertEqual(book_form(book, "taa"), ((0, 500, say(0)),))

    def test_grain_of_300(self):
        for counts in list(GRAINS_OF_300) + [[5, 3, 2, 5, 2, 1], [1, 1, 1, 1, 15, 20], [2, 2, 3, 5, 5]]:
            book = book_of_grain(counts)
            self.assertEqual(grain(book_bounds(book, "top"), book_marks(book, "top")), 300)
            form = book_form(book, "top")
            self.assert_form(form, [(0, 500)] * len(counts))
            facts = plain_needs(book, "top")
            for codes in all_codes([(0, count - 1) for count in counts]):
                self.assertEqual(look(form, codes), plain_ask(book, "top", dict(zip(facts, codes))))

    def test_grain_above_300(self):
        for counts in list(GRAINS_ABOVE_300) + [[7, 1, 1, 43, 1], [1, 2, 1, 1, 1, 151], [2, 2, 2, 2, 19, 1]]:
            book = book_of_grain(counts)
            self.assertGreater(grain(book_bounds(book, "top"), book_marks(book, "top")), 300)
            self.assert_refused(TooFine, book_form, book, "top")

    def test_grain_of_several_tables_together(self):
        # Each table by itself is coarse enough.
        for count, error in ((150, None), (151, TooFine)):
            one = share_table("one", "f", count)
            other = Table("other", ["f"], [GRAIN], Numbers(0, 1), "first",
                          [([spans], 1) for spans in alternate_spans(0, 500, list(range(300, 300 + 150)))])
            top = joining_table("top", [("one", Numbers(0, 1)), ("other", Numbers(0, 1))])
            book = Book([("f", GRAIN)], [top, one, other])
            if error:
                self.assert_refused(error, book_form, book, "top")
            else:
                self.assertEqual(len(book_marks(book, "top")[0]), 299)
                self.assert_form(book_form(book, "top"), [(0, 500)])

    def test_grain_of_tables_not_needed_does_not_count(self):
        fine = share_table("fine", "aa", 301)
        book = book_of_grain([15, 20], [fine])
        self.assert_form(book_form(book, "top"), [(0, 500)] * 2)
        self.assert_refused(TooFine, book_form, book, "fine")

    def test_grain_counts_where_nothing_comes_of_it(self):
        # The top table does not look at what the fine one says.
        fine = share_table("fine", "f", 301)
        top = Table("top", ["fine"], [Numbers(0, 1)], Numbers(0, 1), "first", [([[(0, 1)]], 1)])
        self.assert_refused(TooFine, book_form, Book([("f", GRAIN)], [top, fine]), "top")

    def test_too_many_ahead_of_too_fine(self):
        self.assert_refused(TooMany, book_form, book_of_grain([301, 1, 1, 1, 1, 1, 1]), "top")
        self.assert_refused(TooFine, book_form, book_of_grain([301, 1, 1, 1, 1, 1]), "top")

    def test_no_table_ahead_of_too_many(self):
        self.assert_refused(NoTable, book_form, book_of_grain([301] * 7), "nowhere")
        self.assert_refused(NoTable, flat, book_of_grain([301] * 7), "nowhere")

    def test_60_figures(self):
        wide = f"{-GREAT}..{GREAT}"
        book = read_book(f"fact a {wide}\ntable t: u -> {wide} by first\nwhen {GREAT} -> {-GREAT}\n"
                         f"table u: a -> {wide} by sum\nwhen {GREAT} -> {GREAT}\nwhen - -> 1")
        self.assertEqual(book_form(book, "u"), ((-GREAT, GREAT - 1, say(1)), (GREAT, GREAT, say(GREAT))))
        self.assertEqual(book_form(book, "t"), ((-GREAT, GREAT - 1, NONE), (GREAT, GREAT, say(-GREAT))))


class Flat(TurnCase):
    def assert_flat(self, book, name, codes=None):
        told = flat(book, name)
        self.assertIs(type(told), Table)
        self.assertEqual((told.name, told.way), (name, "only"))
        self.assertEqual(told.names, plain_needs(book, name))
        for domain, fact in zip(told.domains, told.names):
            self.assertTrue(alike(domain, dict(book.facts)[fact]))
        self.assertTrue(alike(told.outcome, table_of(book, name).outcome))
        self.assertTrue(apart(told))
        for cells, code in told.rows:
            self.assertTrue(all(cells))
            self.assert_kinds(cells, [[(int, int)]])
        facts = plain_needs(book, name)
        for some in codes or all_codes(plain_fact_bounds(book, name)):
            self.assertEqual(plain_verdict(told, some), plain_ask(book, name, dict(zip(facts, some))))
        return told

    def test_plain(self):
        told = self.assert_flat(BOOK, "due")
        self.assertEqual(told.names, ["hue", "age"])
        self.assertEqual(told.outcome.words, ["red", "green", "blue"])
        self.assert_flat(BOOK, "fee")

    def test_rough_books(self):
        refused = 0
        for seed in range(150):
            book = rough_book(seed)
            for table in book.tables:
                if any(due == CLASH for codes, due in plain_verdicts(book, table.name)):
                    self.assert_refused(Clash, flat, book, table.name)
                    refused += 1
                else:
                    self.assert_flat(book, table.name)
        self.assertGreater(refused, 20)

    def test_one_table(self):
        for table in (fee_table(), wide_table("first"), table_of_200_rows("first")):
            told = flat(alone(table), table.name)
            self.assertEqual(sorted(told.rows), sorted(spread(table).rows))

    def test_nothing_is_said(self):
        self.assertEqual(self.assert_flat(alone(fee_table("first", [])), "fee").rows, [])

    def test_4_facts_and_5(self):
        for count in (1, 2, 3, 4):
            self.assert_flat(book_of_grain([2] * count), "top", all_codes([(0, 2)] * count))
        for count in (5, 6, 7):
            self.assert_refused(TooMany, flat, book_of_grain([1] * count), "top")
        self.assertEqual(len(boxes(book_form(book_of_grain([1] * 5), "top"), 5)), 1)

    def test_grain_of_300_and_above(self):
        for counts in GRAINS_OF_300:
            book = few_boxes(counts)
            self.assertEqual(grain(book_bounds(book, "top"), book_marks(book, "top")), 300)
            self.assert_flat(book, "top", all_codes([(0, count) for count in counts]))
        for counts in GRAINS_ABOVE_300:
            self.assert_refused(TooFine, flat, few_boxes(counts), "top")

    def test_200_boxes_and_201(self):
        for count, pattern, last, due in (
            (200, [1, 2], None, 200), (201, [1, 2], None, 201), (300, [1, 2, None], None, 200), (300, [1, 2, None], 3, 201),
            (299, [1, None, 2], 3, 200), (300, [1, 2, 3], None, 300),
        ):
            book = alone(counted_table(count, pattern, "first", last))
            self.assertEqual(len([leaf for box, leaf in boxes(book_form(book, "t"), 1) if leaf != NONE]), due)
            if due > 200:
                self.assert_refused(TooMany, flat, book, "t")
            else:
                self.assertEqual(len(self.assert_flat(book, "t").rows), due)

    def test_201_boxes_of_two_columns(self):
        self.assertEqual(len(flat(book_of_grain([10, 20]), "top").rows), 200)
        self.assert_refused(TooMany, flat, book_of_grain([3, 67]), "top")
        self.assert_refused(TooMany, flat, book_of_grain([15, 20]), "top")

    def test_clash(self):
        self.assert_refused(Clash, flat, BOOK, "odd")
        self.assert_refused(Clash, flat, alone(fee_table("only")), "fee")
        text = "fact a 0..9\ntable t: u -> 0..9 by first\nwhen - -> 1\ntable u: a -> 0..9 by only\nwhen - -> 1\nwhen 9 -> 1"
        self.assert_refused(Clash, flat, read_book(text), "t")
        self.assert_refused(Clash, flat, read_book(text), "u")

    def test_clash_that_does_not_come_through(self):
        # Where the first column says nothing, the clash behind it is not told.
        text = "\n".join([
            "fact a 0..9", "table t: v, u -> 0..9 by first", "when - | - -> 1", "table u: a -> 0..9 by only", "when - -> 1",
            "when 9 -> 1", "table v: a -> 0..9 by only", "when ..8 -> 2",
        ])
        self.assert_flat(read_book(text), "t")
        self.assert_refused(Clash, flat, read_book(text.replace("v, u", "u, v")), "t")

    def test_order_of_refusals(self):
        clashing = Table("clash", ["aa"], [GRAIN], Numbers(0, 1), "only", [([[(0, 500)]], 1)] * 2)

        def with_clash(counts):
            book = book_of_grain(counts, [clashing])
            top = Table("up", ["top", "clash"], [table_of(book, "top").outcome, Numbers(0, 1)], Numbers(0, 1), "first", [])
            return Book(book.facts, book.tables + [top])

        self.assert_refused(TooMany, flat, with_clash([301, 1, 1, 1, 1]), "up")
        self.assert_refused(TooFine, flat, with_clash([301, 1, 1, 1]), "up")
        self.assert_refused(Clash, flat, with_clash([15, 20]), "up")
        self.assert_refused(TooFine, flat, with_clash([16, 20]), "up")

    def test_clash_ahead_of_too_many(self):
        for at in (0, 150, 299):
            table = counted_table(300, [1, 2, 3], "only")
            clashing = with_rows(table, table.rows + [([[(at, at)]], 1)])
            self.assert_refused(Clash, flat, alone(clashing), "t")
            self.assert_refused(TooMany, flat, alone(table), "t")

    def test_lists_of_its_own(self):
        self.assert_lists_of_its_own(lambda table: flat(alone(table), "fee"))

    def test_told_alike(self):
        one = flat(BOOK, "due")
        one.rows.clear()
        one.names.clear()
        one.domains.clear()
        self.assertEqual(flat(BOOK, "due").rows, flat(BOOK, "due").rows)
        self.assert_flat(BOOK, "due")


def few_boxes(counts):
    # As fine as told, but it says the same nearly everywhere.
    book = book_of_grain(counts)
    outcome = book.tables[0].outcome
    rows = [([[(0, outcome.high)]], 1)]
    head = Table("top", ["inner"], [outcome], Numbers(0, 1), "first", rows)
    inner = Table("inner", book.tables[0].names, book.tables[0].domains, outcome, "sum", book.tables[0].rows)
    return Book(book.facts, [head, inner] + book.tables[1:])


class Compared(BoxCase):
    def assert_compared(self, book, other, name):
        told = compared(book, other, name)
        bounds = plain_fact_bounds(book, name)
        self.assertIs(type(told), list)
        for part in told:
            self.assertIs(type(part), tuple)
            self.assert_kinds(part[1:], ((str, int), (str, int)))
            self.assertNotEqual(part[1], part[2])
        self.assert_boxes([part[0] for part in told], bounds)
        ours = plain_verdicts(book, name)
        theirs = plain_verdicts(other, name)
        for (codes, old), (same, new) in zip(ours, theirs):
            found = [part[1:] for part in told if all(low <= code <= high for (low, high), code in zip(part[0], codes))]
            self.assertEqual(found, [] if old == new else [(old, new)])
        return told

    def test_plain(self):
        other = read_book(TEXT.replace("18..90 -> green", "18..40 -> green").replace("not green -> 5", "red -> 5"))
        self.assertEqual(compared(BOOK, other, "due"), [
            (((0, 0), (41, 64)), say(1), NONE), (((2, 2), (0, 17)), say(2), NONE),
        ])
        self.assertEqual(compared(other, BOOK, "due"), [
            (((0, 0), (41, 64)), NONE, say(1)), (((2, 2), (0, 17)), NONE, say(2)),
        ])

    def test_with_itself(self):
        for name in ("fee", "due", "odd"):
            self.assertEqual(compared(BOOK, BOOK, name), [])
            self.assertEqual(compared(BOOK, read_book(TEXT), name), [])
        for seed in range(40):
            book = rough_book(seed)
            for table in book.tables:
                self.assertEqual(compared(book, book, table.name), [])

    def test_rough_books(self):
        unlike = 0
        for seed in range(120):
            book = rough_book(seed)
            other = altered(book, seed)
            for table in book.tables:
                unlike += len(self.assert_compared(book, other, table.name))
        self.assertGreater(unlike, 100)

    def test_one_table(self):
        for one, other in ((fee_table(), fee_table("sum")), (fee_table("only"), fee_table("like")), (wide_table("low"), wide_table("high"))):
            self.assertEqual(compared(alone(one), alone(other), one.name), changes(one, other))

    def test_against_the_flat_one(self):
        book = Book(BOOK.facts, [flat(BOOK, "due")])
        self.assertEqual(compared(BOOK, book, "due"), [])
        self.assertEqual(compared(book, BOOK, "due"), [])

    def test_other_tables_inside_and_outside(self):
        # The same answer through other tables, other facts beside, another order of columns.
        text = "fact b 0..9\nfact a 0..9\ntable t: u -> 0..9 by first\nwhen 1 -> 3\ntable u: a -> 0..9 by first\nwhen 4.. -> 1"
        other = "fact a 0..9\nfact c x, y\ntable w: c -> x by first\ntable t: a -> 0..9 by only\nwhen 4..6 -> 3\nwhen 7.. -> 3"
        self.assertEqual(compared(read_book(text), read_book(other), "t"), [])

    def test_no_such_table(self):
        for name in NO_NAMES:
            self.assert_refused(NoTable, compared, BOOK, BOOK, name)
        less = read_book("fact hue red, green, blue\nfact age 0..120\nfact size -3..3")
        for name in ("fee", "due", "odd"):
            self.assert_refused(NoTable, compared, BOOK, less, name)
            self.assert_refused(NoTable, compared, less, BOOK, name)
            self.assert_refused(NoTable, compared, less, less, name)
            self.assert_refused(NoTable, compared, BOOK, Book([], []), name)
        fine = book_of_grain([301] * 7)
        self.assert_refused(NoTable, compared, fine, BOOK, "top")
        self.assert_refused(NoTable, compared, BOOK, fine, "top")

    def test_unlike(self):
        base = "fact a 0..9\nfact b x, y\ntable t: a, b -> 0..9 by first\nwhen - | x -> 1"
        self.assertEqual(compared(read_book(base), read_book(base + "\nfact c 0..1"), "t"), [])
        for old, new in (
            ("fact a 0..9\nfact b x, y", "fact b x, y\nfact a 0..9"), ("fact a 0..9", "fact a 0..8"), ("fact a 0..9", "fact a -1..9"),
            ("fact b x, y", "fact b x, y, z"), ("fact b x, y", "fact b y, x"), ("fact a 0..9", "fact a x, y"),
            ("a, b -> 0..9", "a, b -> 0..10"), ("a, b -> 0..9", "a, b -> -1..9"), ("fact a", "fact c"),
        ):
            changed = base.replace(old, new)
            if new == "fact c":
                changed = changed.replace("table t: a", "table t: c")
            self.assertNotEqual(changed, base)
            self.assert_refused(Unlike, compared, read_book(base), read_book(changed), "t")
            self.assert_refused(Unlike, compared, read_book(changed), read_book(base), "t")

    def test_unlike_outcomes_of_words(self):
        base = "fact a 0..9\ntable t: a -> x, y by first\nwhen - -> x"
        for new in ("y, x", "x, y, z", "x", "0..1"):
            text = base.replace("x, y", new)
            if new == "0..1":
                text = text.replace("-> x", "-> 1")
            self.assert_refused(Unlike, compared, read_book(base), read_book(text), "t")
            self.assert_refused(Unlike, compared, read_book(text), read_book(base), "t")

    def test_unlike_needs(self):
        # The columns of the table itself are the same: what its tables need is not.
        base = "fact a 0..9\nfact b 0..9\ntable t: u -> 0..9 by first\nwhen - -> 1\ntable u: a -> 0..9 by first"
        for columns in ("b", "a, b", "b, a"):
            other = base.replace("table u: a", "table u: " + columns)
            self.assert_refused(Unlike, compared, read_book(base), read_book(other), "t")
            self.assert_refused(Unlike, compared, read_book(other), read_book(base), "t")

    def test_outcomes_of_inner_tables_may_differ(self):
        base = "fact a 0..9\ntable t: u -> 0..9 by first\nwhen 5 -> 1\ntable u: a -> 0..9 by first\nwhen 3 -> 5"
        other = base.replace("table u: a -> 0..9", "table u: a -> 0..5")
        self.assertEqual(compared(read_book(base), read_book(other), "t"), [])

    def test_6_facts_and_7(self):
        for count in (4, 5, 6):
            book = book_of_grain([2] * count)
            other = book_of_grain([2] * (count - 1) + [1])
            self.assertEqual(compared(book, book, "top"), [])
            told = compared(book, other, "top")
            self.assertEqual(len(told), 1 << count - 1)
            self.assertEqual([part[0][-1] for part in told], [(1, 500)] * len(told))
        for count in (7, 8):
            self.assert_refused(TooMany, compared, book_of_grain([1] * count), book_of_grain([1] * count), "top")

    def test_grains(self):
        book = book_of_grain([15, 20])
        self.assertEqual(compared(book, book, "top"), [])
        self.assertEqual(len(compared(book, book_of_grain([15, 19]), "top")), 15)
        fine = book_of_grain([7, 43])
        self.assert_refused(TooFine, compared, fine, book, "top")
        self.assert_refused(TooFine, compared, book, fine, "top")
        self.assert_refused(TooFine, compared, fine, fine, "top")

    def test_order_of_refusals(self):
        fine = book_of_grain([301, 1, 1, 1, 1, 1, 1])
        moved = Book(fine.facts[::-1], fine.tables)
        self.assert_refused(Unlike, compared, fine, moved, "top")
        self.assert_refused(Unlike, compared, moved, fine, "top")
        self.assert_refused(TooMany, compared, fine, fine, "top")
        self.assert_refused(NoTable, compared, fine, moved, "nowhere")
        self.assert_refused(NoTable, compared, Book([], []), moved, "top")
        fine = book_of_grain([301, 1])
        moved = Book(fine.facts[::-1], fine.tables)
        self.assert_refused(Unlike, compared, fine, moved, "top")
        self.assert_refused(TooFine, compared, fine, fine, "top")


class NothingIsChanged(BoxCase):
    def test_what_is_handed_in(self):
        book = read_book(TEXT)
        other = read_book(TEXT.replace("90", "40"))
        kept = [copy.deepcopy([table.rows for table in some.tables]) for some in (book, other)]
        states = [book_state(some) for some in (book, other)]
        for turn in range(2):
            for call in (book_bounds, book_marks, book_form, flat):
                call(book, "due")
            compared(book, other, "due")
        self.assertEqual([[table.rows for table in some.tables] for some in (book, other)], kept)
        self.assertEqual([book_state(some) for some in (book, other)], states)

    def test_what_is_told_is_the_askers_own(self):
        for call in (book_bounds, book_marks):
            due = copy.deepcopy(call(BOOK, "odd"))
            told = call(BOOK, "odd")
            if call == book_marks:
                for marks in told:
                    marks.append(99)
            told.append((5, 5))
            self.assertEqual(call(BOOK, "odd"), due)
        other = read_book(TEXT.replace("90", "40"))
        told = compared(BOOK, other, "due")
        told.clear()
        self.assertEqual(len(compared(BOOK, other, "due")), 1)


if __name__ == "__main__":
    unittest.main()
