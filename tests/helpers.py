"""What several of the tests need."""

import copy
import itertools
import random
import unittest

from rowjudge.books import Book
from rowjudge.domains import Numbers, Words
from rowjudge.errors import TableError
from rowjudge.forms import look
from rowjudge.tables import Table

GREAT = 10 ** 60 - 1
LETTERS = "abcdefghijklmnopqrstuvwxyz"
SIGNS = [chr(k) for k in range(32, 127) if chr(k) != "\x25"] + ["\n"]
WAYS = ("first", "only", "like", "low", "high", "sum")
NONE = ("none", 0)
CLASH = ("clash", 0)

AGE = Numbers(0, 120)
HUE = Words(["red", "green", "blue"])
FEE = Numbers(-50, 50)
ALL_AGES = [(0, 120)]
ALL_HUES = [(0, 2)]
EVERYWHERE = [ALL_AGES, ALL_HUES]
FEE_ROWS = [
    ([[(0, 17)], ALL_HUES], 5),
    ([[(10, 64)], [(0, 0), (2, 2)]], 20),
    ([[(0, 9), (65, 120)], [(1, 1)]], 20),
    ([[], ALL_HUES], 7),
    ([ALL_AGES, [(2, 2)]], -30),
]


def due_text(fee_way, odd_way):
    # A book of three facts and three tables, two of which ask another one.
    return "\n".join([
        "fact hue red, green, blue",
        "fact age 0..120",
        "fact size -3..3",
        "table due: fee, age -> red, green, blue by first",
        "when ..5 | - -> blue",
        "when 20 | 18..90 -> green",
        "table fee: age, hue -> 0..50 by " + fee_way,
        "when ..17 | not green -> 5",
        "when 10..64 | red -> 20",
        "table odd: size, due -> 0..9 by " + odd_way,
        "when ..-1 | - -> 1",
        "when 0.. | blue -> 7",
        "when 2.. | - -> 4",
    ])


def many_words(how_many):
    return [LETTERS[k // 26] + LETTERS[k % 26] for k in range(how_many)]


def with_sign_at_any_place(text, sign):
    put_in = [text[:k] + sign + text[k:] for k in range(len(text) + 1)]
    put_over = [text[:k] + sign + text[k + 1:] for k in range(len(text))]
    return put_in + put_over


def spans_of(numbers):
    # The plain reading of [1.1]: number by number, beside the program's own ways.
    spans = []
    for number in sorted(set(numbers)):
        if spans and spans[-1][1] == number - 1:
            spans[-1] = (spans[-1][0], number)
        else:
            spans.append((number, number))
    return spans


def say(code):
    return ("say", code)


# The plain reading of [3.1] for codes that are not empty.
PLAIN = {
    "first": lambda codes, outcome: say(codes[0]),
    "only": lambda codes, outcome: CLASH if codes[1:] else say(codes[0]),
    "like": lambda codes, outcome: say(codes[0]) if all(code == codes[0] for code in codes) else CLASH,
    "low": lambda codes, outcome: say(sorted(codes)[0]),
    "high": lambda codes, outcome: say(sorted(codes)[-1]),
    "sum": lambda codes, outcome: say(sorted([outcome.low, sum(codes), outcome.high])[1]),
}


def all_codes(bounds):
    return [list(codes) for codes in itertools.product(*[range(low, high + 1) for low, high in bounds])]


def held(spans, code):
    return any(low <= code <= high for low, high in spans)


def plain_mask(rows, codes):
    bits = ["1" if all(map(held, cells, codes)) else "0" for cells, code in rows]
    return int("0" + "".join(reversed(bits)), 2)


def plain_verdict(table, codes):
    # Beside the program's own ways.
    bits = plain_mask(table.rows, codes)
    said = [code for k, (cells, code) in enumerate(table.rows) if bits >> k & 1]
    return PLAIN[table.way](said, table.outcome) if said else NONE


def plain_bounds(table):
    return [(domain.low, domain.high) for domain in table.domains]


def plain_without(table, k):
    return Table(table.name, table.names, table.domains, table.outcome, table.way,
                 [row for place, row in enumerate(table.rows) if place != k])


def table_state(table):
    return (table.name, table.names, table.domains, table.outcome, table.way, table.rows)


def fee_table(way="first", rows=FEE_ROWS):
    return Table("fee", ["age", "hue"], [AGE, HUE], FEE, way, rows)


def age_table(way, rows, outcome=FEE):
    return Table("t", ["age"], [AGE], outcome, way, [([spans], code) for spans, code in rows])


def wide_table(way="sum"):
    wide = Numbers(-GREAT, GREAT)
    rows = [
        ([[(-GREAT, -GREAT)], [(-GREAT, GREAT)]], GREAT),
        ([[(-GREAT, 0), (GREAT, GREAT)], [(5, GREAT - 1)]], -GREAT),
        ([[(-GREAT, GREAT)], [(-7, 5)]], GREAT - 3),
    ]
    return Table("wide", ["a", "b"], [wide, wide], wide, way, rows)


def words_table(way="like"):
    full = Words(many_words(40))
    rows = [
        ([[(0, 0)], [(0, 0), (39, 39)]], 39),
        ([[(0, 0)], [(3, 20)]], 0),
        ([[(0, 0)], [(20, 39)]], 7),
    ]
    return Table("word", ["a", "b"], [Words(["so"]), full], full, way, rows)


def table_of_200_rows(way="sum"):
    # 30 and 10 stretches, rows that overlap, some of which take no code.
    chance = random.Random(200)
    rows = []
    for k in range(200):
        first = sorted([chance.randint(0, 29), chance.randint(0, 29)])
        last = sorted([chance.randint(0, 9), chance.randint(0, 9)])
        cells = [[(first[0], first[1])], [(last[0], last[1])] if k % 20 else []]
        rows.append((cells, chance.randint(-9, 9)))
    return Table("many", ["a", "b"], [Numbers(0, 29), Numbers(0, 9)], Numbers(-20, 20), way, rows)


def rough_rows(chance, domains, outcome, most=6):
    rows = []
    for k in range(chance.randint(0, most)):
        cells = []
        for domain in domains:
            share = chance.choice([0.3, 0.6, 0.9, 1])
            cells.append(spans_of([code for code in range(domain.low, domain.high + 1) if chance.random() < share]))
        rows.append((cells, chance.randint(outcome.low, outcome.high)))
    return rows


def rough_domain(chance, most=4):
    low = chance.randint(-3, 3)
    count = chance.randint(1, most)
    return chance.choice([Numbers(low, low + count - 1), Words(many_words(count))])


def rough_table(seed, way=None):
    # Small enough to be gone through code by code; 1 to 4 columns, of numbers and of words.
    chance = random.Random(seed)
    domains = [rough_domain(chance) for column in range(chance.randint(1, 4))]
    outcome = Numbers(chance.randint(-2, 0), chance.randint(0, 2))
    rows = rough_rows(chance, domains, outcome)
    return Table("t", many_words(len(domains)), domains, outcome, way or chance.choice(WAYS), rows)


def rough_book(seed, ways=WAYS):
    # Tables ask such as are made earlier here; then facts and tables are put into any order.
    chance = random.Random(seed)
    facts = [("f" + letter, rough_domain(chance, 3)) for letter in LETTERS[:chance.randint(1, 4)]]
    tables = []
    for letter in LETTERS[:chance.randint(1, 6)]:
        asked = [(table.name, table.outcome) for table in tables]
        columns = dict(chance.choice(facts + asked * 2) for k in range(chance.randint(1, 4)))
        outcome = rough_domain(chance, 3)
        way = chance.choice([way for way in ways if way != "sum" or isinstance(outcome, Numbers)])
        domains = list(columns.values())
        rows = rough_rows(chance, domains, outcome)
        tables.append(Table("t" + letter, list(columns), domains, outcome, way, rows))
    chance.shuffle(facts)
    chance.shuffle(tables)
    return Book(facts, tables)


def plain_needs(book, name):
    facts = [fact for fact, domain in book.facts]
    tables = {table.name: table.names for table in book.tables}
    names = {name}
    while not all(set(tables[asked]) <= names for asked in names if asked in tables):
        names |= {column for asked in names if asked in tables for column in tables[asked]}
    return [fact for fact in facts if fact in names]


def plain_ask(book, name, codes):
    # The plain reading of [9.1], beside the program's own ways; codes: a dict from facts to their codes.
    if name in codes:
        return say(codes[name])
    table = [table for table in book.tables if table.name == name][0]
    told = [plain_ask(book, column, codes) for column in table.names]
    silent = [verdict for verdict in told if verdict[0] != "say"]
    return silent[0] if silent else plain_verdict(table, [code for kind, code in told])


def plain_fact_bounds(book, name):
    domains = dict(book.facts)
    return [(domains[fact].low, domains[fact].high) for fact in plain_needs(book, name)]


def plain_verdicts(book, name):
    # All codes of the facts that are needed, each with the verdict there.
    facts = plain_needs(book, name)
    every = all_codes(plain_fact_bounds(book, name))
    return [(codes, plain_ask(book, name, dict(zip(facts, codes)))) for codes in every]


def book_state(book):
    return (book.facts, [table_state(table) for table in book.tables])


def counted_table(count, pattern, way="first", last=None):
    # One column in which the pattern's codes take turns, None standing for no row: each code is a box of its own.
    places = [pattern[k % len(pattern)] for k in range(count)]
    if last is not None:
        places[-1] = last
    rows = []
    for code in sorted({code for code in places if code is not None}):
        spans = [(k, k) for k, own in enumerate(places) if own == code]
        rows += [([spans[k:k + 100]], code) for k in range(0, len(spans), 100)]
    return Table("t", ["a"], [Numbers(0, count - 1)], Numbers(0, 9), way, rows)


def alternate_spans(low, high, marks):
    # Spans that have their edges at the marks, at most 100 pairs in each list.
    ends = [mark - 1 for mark in marks[1::2]] + ([high] if len(marks) % 2 else [])
    pairs = list(zip(marks[0::2], ends))
    return [pairs[k:k + 100] for k in range(0, len(pairs), 100)]


def table_with_marks(domains, marks, way="first"):
    # A table whose marks are just these; its outcome tells which column a row is for.
    rows = []
    for column, domain in enumerate(domains):
        for spans in alternate_spans(domain.low, domain.high, marks[column]):
            cells = [spans if k == column else other.whole() for k, other in enumerate(domains)]
            rows.append((cells, column))
    return Table("t", many_words(len(domains)), domains, Numbers(0, 9), way, rows)


def table_of_grain(counts, way="first"):
    # counts: how many stretches each column falls into.
    domains = [Numbers(0, 500) for count in counts]
    return table_with_marks(domains, [list(range(1, count)) for count in counts], way)


def unlike_tables(rows):
    # Each is unlike fee_table by one cause: how many columns, a column's domain, or the outcome's.
    hue = [HUE.whole()]
    yield Table("fee", ["age"], [AGE], FEE, "first", [(cells[:1], code) for cells, code in rows])
    yield Table("fee", ["age", "hue", "more"], [AGE, HUE, HUE], FEE, "first", [(cells + hue, code) for cells, code in rows])
    yield Table("fee", ["age", "hue"], [Numbers(0, 121), HUE], FEE, "first", rows)
    yield Table("fee", ["age", "hue"], [Numbers(-1, 120), HUE], FEE, "first", rows)
    yield Table("fee", ["age", "hue"], [AGE, Words(["red", "green", "blue", "pink"])], FEE, "first", rows)
    yield Table("fee", ["age", "hue"], [AGE, Words(["red", "blue", "green"])], FEE, "first", rows)
    yield Table("fee", ["age", "hue"], [AGE, Words(["red", "green", "pink"])], FEE, "first", rows)
    yield Table("fee", ["age", "hue"], [AGE, Numbers(0, 2)], FEE, "first", rows)
    yield Table("fee", ["age", "hue"], [AGE, HUE], Numbers(-50, 51), "first", rows)
    yield Table("fee", ["age", "hue"], [AGE, HUE], Numbers(-51, 50), "first", rows)
    yield Table("fee", ["age", "hue"], [AGE, HUE], Words(many_words(21)), "first", [(cells, 1) for cells, code in rows])


GRAINS_OF_300 = ([300], [15, 20], [2, 3, 50], [5, 5, 4, 3])
GRAINS_ABOVE_300 = ([301], [7, 43], [301, 1], [2, 151], [1, 7, 43], [4, 4, 19, 1], [1, 1, 7, 43])


class RefusalCase(unittest.TestCase):
    def assert_refused(self, error, call, *given):
        with self.assertRaises(TableError) as taken:
            call(*given)
        self.assertIs(type(taken.exception), error, given)

    def assert_kinds(self, told, kinds):
        # [x] stands for a list of x, (x, y) for a tuple of just x and y.
        if isinstance(kinds, type):
            self.assertIs(type(told), kinds, told)
        elif isinstance(kinds, list):
            self.assertIs(type(told), list, told)
            for part in told:
                self.assert_kinds(part, kinds[0])
        else:
            self.assertIs(type(told), tuple, told)
            self.assertEqual(len(told), len(kinds), told)
            for part, kind in zip(told, kinds):
                self.assert_kinds(part, kind)


class TurnCase(RefusalCase):
    def assert_same_verdicts(self, told, table):
        for codes in all_codes(plain_bounds(table)):
            self.assertEqual(plain_verdict(told, codes), plain_verdict(table, codes), (codes, table.way, table.rows))

    def assert_head(self, told, table, way=None):
        # The same but for its rows, or for its rows and its way.
        self.assertIs(type(told), Table)
        self.assertEqual(table_state(told)[:4], table_state(table)[:4])
        self.assertEqual(told.way, way or table.way)

    def assert_lists_of_its_own(self, call, way="first"):
        # What is told of fee_table shares no list with it.
        table = fee_table(way, copy.deepcopy(FEE_ROWS))
        told = call(table)
        kept = copy.deepcopy(told.rows)
        for cells, code in told.rows:
            for spans in cells:
                spans.append((99, 99))
            cells.clear()
        told.rows.clear()
        told.names.append("more")
        told.domains.clear()
        self.assertEqual(table_state(table), ("fee", ["age", "hue"], [AGE, HUE], FEE, way, FEE_ROWS))
        again = call(table)
        self.assertEqual(again.rows, kept)
        for cells, code in table.rows:
            for spans in cells:
                spans.clear()
            cells.clear()
        table.rows.clear()
        table.names.clear()
        self.assertEqual(again.rows, kept)
        self.assertEqual(len(again.names), 2)


class BoxCase(RefusalCase):
    def assert_box(self, box, bounds):
        self.assertIs(type(box), tuple)
        self.assertEqual(len(box), len(bounds), box)
        for pair, (low, high) in zip(box, bounds):
            self.assert_kinds(pair, (int, int))
            self.assertTrue(low <= pair[0] <= pair[1] <= high, (box, bounds))

    def assert_boxes(self, told, bounds):
        # Told boxes ascend, lie within the bounds, and no two of them have codes in common.
        self.assertEqual(told, sorted(told))
        for box in told:
            self.assert_box(box, bounds)
        for one, other in itertools.combinations(told, 2):
            shared = all(max(a[0], b[0]) <= min(a[1], b[1]) for a, b in zip(one, other))
            self.assertFalse(shared, (one, other))


class FormCase(RefusalCase):
    def assert_form(self, form, bounds):
        # [4.1], rule by rule.
        if not bounds:
            self.assertIn(type(form), (int, tuple))
            if type(form) is tuple:
                self.assert_kinds(form, (str, int))
            return
        self.assertIs(type(form), tuple)
        due = bounds[0][0]
        for triple in form:
            self.assertIs(type(triple), tuple)
            low, high, beneath = triple
            self.assert_kinds((low, high), (int, int))
            self.assertEqual(low, due)
            self.assertLessEqual(low, high)
            self.assert_form(beneath, bounds[1:])
            due = high + 1
        self.assertEqual(due, bounds[0][1] + 1)
        for one, other in zip(form, form[1:]):
            self.assertNotEqual(one[2], other[2])

    def assert_tells(self, form, bounds, leaf):
        self.assert_form(form, bounds)
        for codes in all_codes(bounds):
            self.assertEqual(look(form, codes), leaf(codes), codes)
