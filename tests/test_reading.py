import copy
import itertools
import random
import re
import unittest

from helpers import (
    AGE, FEE, FEE_ROWS, GREAT, HUE, LETTERS, SIGNS, RefusalCase, age_table, book_state, fee_table, many_words,
    rough_book, table_of_200_rows, table_state, wide_table, with_sign_at_any_place, words_table,
)
from rowjudge.books import Book, asks, needs
from rowjudge.cells import read_cell
from rowjudge.domains import Numbers, Words, alike, is_word, number_of, read_domain
from rowjudge.errors import (
    BadCell, BadDomain, BadLine, BadName, BadNumber, BadRow, BadWay, Outside, Ring, TableError, TooMany,
)
from rowjudge.reading import head_text, read_book, row_text, show_book
from rowjudge.tables import Table

ORDER = [BadLine, TooMany, BadName, BadDomain, BadWay, BadRow, BadCell, BadNumber, Outside, Ring]
WAY_NAMES = ["first", "only", "like", "low", "high", "sum"]

PLAIN = "\n".join([
    "fact age 0..120",
    "fact hue red, green, blue",
    "table fee: age, hue -> -50..50 by first",
    "when ..17 | - -> 5",
    "when 10..64 | red, blue -> 20",
    "when ..9, 65.. | green -> 20",
    "when not - | - -> 7",
    "when - | blue -> -30",
])

# All kinds of lines, with tables that ask tables further down, and facts anywhere.
MIXED = "\n".join([
    "table due: fee, age -> low, mid, top by like",
    "when ..0 | - -> low",
    "fact age 0..120",
    "when 1.. | not 18..64 -> mid",
    "table fee: hue, size -> -50..50 by sum",
    "table size: age -> 1..3 by only",
    "when ..9 -> 1",
    "fact hue red, green, blue",
    "when 10.. -> 3",
])


def plain_parts(text):
    # [8.2] and [8.3] by patterns: facts and tables as texts, or None where a line is none.
    facts = []
    tables = []
    for line in re.split("\n", text) if text else []:
        fact = re.fullmatch("fact ([^ ]*) (.*)", line)
        table = re.fullmatch("table (.*?): (.*?) -> (.*) by (.*)", line)
        row = re.fullmatch("when (.*?) -> (.*)", line)
        if fact:
            facts.append(fact.groups())
        elif table:
            tables.append((table[1], re.split(", ", table[2]), table[3], table[4], []))
        elif row and tables:
            tables[-1][4].append((re.split(" [|] ", row[1]), row[2]))
        else:
            return None
    return facts, tables


def told(error, call, *given):
    # What a call answers, or None where it refuses with that class.
    try:
        return call(*given)
    except error:
        return None


def has_bad_name(facts, tables):
    names = [fact[0] for fact in facts] + [table[0] for table in tables]
    if not all(is_word(name) for name in names) or len(set(names)) < len(names):
        return True
    for name, columns, domain, way, rows in tables:
        if len(set(columns)) < len(columns) or name in columns or not set(columns) <= set(names):
            return True
    return False


def has_ring(tables):
    columns = {table[0]: table[1] for table in tables}
    reached = {(name, column) for name in columns for column in columns[name]}
    while True:
        further = {(one, last) for one, middle in reached for other, last in reached if middle == other}
        if further <= reached:
            return any(one == last for one, last in reached)
        reached |= further


def first_due(text):
    # The class with which [8.4] refuses the text, or None; each class is looked for through all of it.
    parts = plain_parts(text)
    if parts is None:
        return BadLine
    facts, tables = parts
    wide = any(len(table[1]) > 4 or len(table[4]) > 200 for table in tables)
    if len(facts) > 20 or len(tables) > 30 or wide:
        return TooMany
    if has_bad_name(facts, tables):
        return BadName
    domains = {name: told(BadDomain, read_domain, domain) for name, domain in facts}
    domains.update({table[0]: told(BadDomain, read_domain, table[2]) for table in tables})
    if None in domains.values():
        return BadDomain
    if any(way not in WAY_NAMES or way == "sum" and isinstance(domains[name], Words) for name, _, _, way, _ in tables):
        return BadWay
    if any(len(fields) != len(table[1]) for table in tables for fields, value in table[4]):
        return BadRow
    return first_due_in_rows(tables, domains)


def first_due_in_rows(tables, domains):
    cells = [(domains[column], field) for _, columns, _, _, rows in tables for fields, _ in rows
             for column, field in zip(columns, fields)]
    if any(told(BadCell, read_cell, domain, field) is None for domain, field in cells):
        return BadCell
    values = [(domains[table[0]], value) for table in tables for fields, value in table[4]]
    numbers = [(domain, told(BadNumber, number_of, value)) for domain, value in values if isinstance(domain, Numbers)]
    if any(number is None for domain, number in numbers):
        return BadNumber
    words = [(domain, value) for domain, value in values if isinstance(domain, Words)]
    if not all(domain.bears(value) for domain, value in numbers + words):
        return Outside
    return Ring if has_ring(tables) else None


def class_of(text):
    try:
        read_book(text)
    except TableError as taken:
        return type(taken)
    return None


class ReadCase(RefusalCase):
    def assert_same_books(self, one, other):
        self.assertEqual([name for name, domain in one.facts], [name for name, domain in other.facts])
        self.assertEqual(len(one.tables), len(other.tables))
        for own, others in zip(one.tables, other.tables):
            for k in (0, 1, 4, 5):
                self.assertEqual(table_state(own)[k], table_state(others)[k])
        for own, others in zip(all_domains(one), all_domains(other)):
            self.assertTrue(alike(own, others), (own.written(), others.written()))

    def assert_read(self, text, book):
        told = read_book(text)
        self.assertIs(type(told), Book)
        self.assert_same_books(told, book)


def all_domains(book):
    domains = [domain for name, domain in book.facts]
    for table in book.tables:
        domains += table.domains + [table.outcome]
    return domains


class Reading(ReadCase):
    def test_plain(self):
        self.assert_read(PLAIN, Book([("age", AGE), ("hue", HUE)], [fee_table()]))

    def test_kinds(self):
        book = read_book(PLAIN)
        self.assertIs(type(book.facts), list)
        for fact in book.facts:
            self.assertIs(type(fact), tuple)
            self.assertIs(type(fact[0]), str)
        self.assertIs(type(book.facts[0][1]), Numbers)
        self.assertIs(type(book.facts[1][1]), Words)
        self.assertIs(type(book.tables), list)
        table = book.tables[0]
        self.assertIs(type(table), Table)
        self.assert_kinds(table.names, [str])
        self.assertIs(type(table.rows), list)
        for row in table.rows:
            self.assertIs(type(row), tuple)
            self.assert_kinds(row[0], [[(int, int)]])
            self.assertIs(type(row[1]), int)

    def test_empty_text(self):
        book = read_book("")
        self.assertIs(type(book), Book)
        self.assertEqual((book.facts, book.tables), ([], []))

    def test_facts_alone(self):
        self.assert_read("fact age 0..120", Book([("age", AGE)], []))
        self.assert_read("fact hue red, green, blue\nfact age 0..120", Book([("hue", HUE), ("age", AGE)], []))

    def test_table_without_rows(self):
        for way in WAY_NAMES:
            table = Table("t", ["age"], [AGE], FEE, way, [])
            self.assert_read("fact age 0..120\ntable t: age -> -50..50 by " + way, Book([("age", AGE)], [table]))

    def test_facts_anywhere_and_tables_further_down(self):
        level = Words(["low", "mid", "top"])
        size = Numbers(1, 3)
        due = Table("due", ["fee", "age"], [FEE, AGE], level, "like", [
            ([[(-50, 0)], [(0, 120)]], 0), ([[(1, 50)], [(0, 17), (65, 120)]], 1),
        ])
        fee = Table("fee", ["hue", "size"], [HUE, size], FEE, "sum", [])
        sizes = Table("size", ["age"], [AGE], size, "only", [([[(0, 9)]], 1), ([[(10, 120)]], 3)])
        book = Book([("age", AGE), ("hue", HUE)], [due, fee, sizes])
        self.assert_read(MIXED, book)
        self.assertEqual(asks(read_book(MIXED), "due"), ["fee"])
        self.assertEqual(needs(read_book(MIXED), "due"), ["age", "hue"])

    def test_order_of_the_lines(self):
        lines = ["fact b 0..1", "table d: b -> 0..1 by first", "fact a 0..1", "table c: a, b, d -> 0..1 by first"]
        for order in itertools.permutations(lines):
            book = read_book("\n".join(order))
            names = [line.split(" ")[1].strip(":") for line in order]
            self.assertEqual([name for name, domain in book.facts], [name for name in names if name in "ab"])
            self.assertEqual([table.name for table in book.tables], [name for name in names if name in "cd"])

    def test_fields_as_stage_2_writes_them(self):
        fields = [("-", [(0, 120)]), ("not -", []), ("7", [(7, 7)]), ("..5, 3..9, 10", [(0, 10)]), ("not 3..", [(0, 2)]),
                  ("120, 0", [(0, 0), (120, 120)]), ("not not -", None)]
        for field, spans in fields:
            text = "fact age 0..120\ntable t: age -> 0..1 by first\nwhen " + field + " -> 1"
            if spans is None:
                self.assert_refused(BadCell, read_book, text)
            else:
                self.assertEqual(read_book(text).tables[0].rows, [([spans], 1)])

    def test_fields_of_a_column_that_is_a_table(self):
        text = "fact age 0..120\ntable t: u -> 0..1 by first\nwhen not mid -> 0\ntable u: age -> low, mid, top by first"
        book = read_book(text)
        self.assertEqual(book.tables[0].rows, [([[(0, 0), (2, 2)]], 0)])
        self.assertEqual(book.tables[0].domains[0].words, ["low", "mid", "top"])

    def test_signs_of_lines_as_words(self):
        text = "\n".join([
            "fact fact by, to, when",
            "fact by 0..9",
            "table table: fact, by -> by, to by first",
            "when by, when | 5.. -> by",
            "table when: by, table -> by by only",
            "when ..3 | to -> by",
        ])
        book = read_book(text)
        self.assertEqual(show_book(book), text)
        self.assertEqual(book.tables[0].rows, [([[(0, 0), (2, 2)], [(5, 9)]], 0)])
        self.assertEqual(book.tables[1].outcome.words, ["by"])
        self.assertEqual(book.tables[1].rows, [([[(0, 3)], [(1, 1)]], 0)])

    def test_60_figures(self):
        wide = f"{-GREAT}..{GREAT}"
        text = f"fact a {wide}\nfact b {wide}\ntable wide: a, b -> {wide} by sum\nwhen ..{1 - GREAT} | {GREAT} -> {-GREAT}"
        book = read_book(text)
        self.assertEqual(book.tables[0].rows, [([[(-GREAT, 1 - GREAT)], [(GREAT, GREAT)]], -GREAT)])
        self.assertEqual(show_book(book), text)

    def test_told_anew_each_time(self):
        one = read_book(PLAIN)
        kept = copy.deepcopy(one.tables[0].rows)
        one.tables[0].rows.clear()
        one.tables[0].names.clear()
        one.facts.clear()
        one.tables.clear()
        self.assertEqual(read_book(PLAIN).tables[0].rows, kept)
        self.assert_read(PLAIN, Book([("age", AGE), ("hue", HUE)], [fee_table()]))


class Bounds(ReadCase):
    def test_20_facts_and_21(self):
        lines = ["fact " + name + " 0..1" for name in many_words(21)]
        self.assertEqual(len(read_book("\n".join(lines[:20])).facts), 20)
        self.assert_refused(TooMany, read_book, "\n".join(lines))

    def test_30_tables_and_31(self):
        lines = ["table " + name + ": f -> 0..1 by first" for name in many_words(31)]
        for fact_at in (0, 15, 30):
            text = "\n".join(lines[:fact_at] + ["fact f 0..1"] + lines[fact_at:30])
            self.assertEqual(len(read_book(text).tables), 30)
            self.assert_refused(TooMany, read_book, text + "\n" + lines[30])

    def test_4_columns_and_5(self):
        facts = "".join("fact " + name + " 0..1\n" for name in "abcde")
        for count in (1, 2, 3, 4):
            names = list("abcde"[:count])
            text = facts + "table t: " + ", ".join(names) + " -> 0..1 by first"
            self.assertEqual(read_book(text).tables[0].names, names)
        for names in ("a, b, c, d, e", "a, b, c, d, ", ", , , , ", "a, a, a, a, a", "t, t, t, t, t, t, t"):
            self.assert_refused(TooMany, read_book, facts + "table t: " + names + " -> 0..1 by first")

    def test_200_rows_and_201(self):
        head = "fact age 0..120\ntable t: age -> 0..120 by first"
        rows = ["when " + str(k % 121) + " -> " + str(k % 100) for k in range(201)]
        for behind in ([], ["table u: age -> 0..1 by first", "when - -> 1"]):
            book = read_book("\n".join([head] + rows[:200] + behind))
            self.assertEqual(book.tables[0].rows, [([[(k % 121, k % 121)]], k % 100) for k in range(200)])
            self.assert_refused(TooMany, read_book, "\n".join([head] + rows + behind))

    def test_400_lines(self):
        lines = ["fact age 0..120", "fact hue red, green, blue"]
        for name in ("t", "u"):
            lines.append("table " + name + ": age, hue -> -50..50 by low")
            lines += ["when " + str(k % 120) + ".. | not green -> " + str(k % 50) for k in range(198)]
        self.assertEqual(len(lines), 400)
        text = "\n".join(lines)
        book = read_book(text)
        self.assertEqual([len(table.rows) for table in book.tables], [198, 198])
        self.assertEqual(show_book(book), text.replace("not green", "red, blue").replace("when 0.. ", "when - "))

    def test_41_words_and_words_of_13_signs(self):
        words = ", ".join(many_words(41))
        self.assertEqual(len(read_book("fact a " + words[:-4]).facts[0][1].words), 40)
        self.assert_refused(BadDomain, read_book, "fact a " + words)
        self.assertEqual(read_book("fact abcdefghijkl 0..1").facts[0][0], "abcdefghijkl")
        self.assert_refused(BadName, read_book, "fact abcdefghijklm 0..1")


# For each class causes that stand by themselves behind the two facts, and each class with names of its own.
BEGINNING = ["fact age 0..120", "fact hue red, green, blue"]
NO_LINES = [
    "", " ", "what", "Fact ba 0..1", " fact ba 0..1", "fact", "fact ", "fact ba", "factba 0..1", "facts ba 0..1",
    "table", "table ", "tables ba: age -> 0..1 by first", "table ba", "table ba:", "table ba: ", "table ba: age",
    "table ba: age ->", "table ba: age -> ", "table ba: age -> 0..1", "table ba: age -> 0..1 by", "table ba: age -> 0..1 byfirst",
    "table ba: age -> 0..1by first", "table ba:age -> 0..1 by first", "table ba age -> 0..1 by first",
    "table ba: age-> 0..1 by first", "table ba: age ->0..1 by first", "table ba: age > 0..1 by first",
    "table ba: age - 0..1 by first", "table ba: age 0..1 by first", "table ba: -> 0..1 by first",
    "table ba: age -> by first", "table ba: age by first -> 0..1", "table ba -> 0..1 by first: age",
    "table ba -> age: 0..1 by first", "table by first: age -> 0..1", "Table ba: age -> 0..1 by first",
    "tableba: age -> 0..1 by first", "when -> 1", "whens - -> 1", "When - -> 1", "when", "when ", "when -", "when - ->",
    "when - ->1", "when - > 1", "when -- 1", "when 1", " when - -> 1", "when- -> 1", "# said aside", "fact\nba 0..1",
]
CAUSES = {
    BadLine: [[line] for line in NO_LINES],
    TooMany: [
        ["fact m" + letter + " 0..1" for letter in LETTERS[:19]],
        ["table m" + name + ": age -> 0..1 by first" for name in many_words(31)],
        ["table ma: age, hue, age, hue, age -> 0..1 by first"],
        ["table ma: age, hue, mb, mc, md -> 0..1 by first"],
        ["table ma: age -> 0..1 by first"] + ["when - -> 1"] * 201,
        ["table ma: age -> 0..1 by first"] + ["when - -> 1"] * 201 + ["table mb: age -> 0..1 by first"],
    ],
    BadName: [
        ["fact not 0..1"], ["fact  0..1"], ["fact Na 0..1"], ["fact na: 0..1"], ["fact na, nb 0..1"],
        ["fact nabcdefghijklm 0..1"], ["fact age 0..120"], ["fact na 0..1", "fact na 0..1"],
        ["table not: age -> 0..1 by first"], ["table : age -> 0..1 by first"], ["table na : age -> 0..1 by first"],
        ["table na nb: age -> 0..1 by first"], ["table age: hue -> 0..1 by first"], ["table hue: age -> 0..1 by first"],
        ["table na: age -> 0..1 by first", "table na: age -> 0..1 by first"],
        ["table na: age -> 0..1 by first", "fact na 0..1"], ["table na: nowhere -> 0..1 by first"],
        ["table na: age, nowhere -> 0..1 by first"], ["table na: age,hue -> 0..1 by first"],
        ["table na: age , hue -> 0..1 by first"], ["table na: age, hue,  -> 0..1 by first"],
        ["table na: , age -> 0..1 by first"], ["table na:  -> 0..1 by first"], ["table na: Age -> 0..1 by first"],
        ["table na: age, age -> 0..1 by first"], ["table na: age, hue, age -> 0..1 by first"],
        ["table na: na -> 0..1 by first"], ["table na: age, na -> 0..1 by first"], ["table na: nb: age -> 0..1 by first"],
        ["table na:  age -> 0..1 by first"], ["table na: age  -> 0..1 by first"], ["table na: age by first -> 0..1 by first"],
        ["table  na: age -> 0..1 by first"], ["table na: not -> 0..1 by first"],
    ],
    BadDomain: [
        ["fact da 1..0"], ["fact da "], ["fact da  0..1"], ["fact da 0..1 "], ["fact da red,green"], ["fact da red, red"],
        ["fact da not"], ["fact da 0..01"], ["fact da -0..1"], ["fact da 0...1"], ["fact da 1"], ["fact da Red"],
        ["fact da " + ", ".join(many_words(41))], ["fact da red green"], ["fact da 0..1" + "0" * 60],
        ["table da: age ->  by first"], ["table da: age -> 1..0 by first"], ["table da: age ->  0..1 by first"],
        ["table da: age -> 0..1  by first"], ["table da: age -> hue -> 0..1 by first"],
        ["table da: age -> 0..1 by only by first"], ["table da: age -> red, green, red by first"],
        ["table da: age -> 0..1 by first by first"], ["table da: age -> -> 0..1 by first"],
    ],
    BadWay: [
        ["table wa: age -> 0..1 by "], ["table wa: age -> 0..1 by best"], ["table wa: age -> 0..1 by First"],
        ["table wa: age -> 0..1 by first "], ["table wa: age -> 0..1 by  first"], ["table wa: age -> 0..1 by by"],
        ["table wa: age -> red by sum"], ["table wa: age -> red, green by sum"], ["table wa: age -> 0..1 by first,"],
        ["table wa: age -> 0..1 by first -> 0..1"], ["table wa: age -> 0..1 by first: age"],
    ],
    BadRow: [
        ["table ra: age -> 0..1 by first", "when - | - -> 1"],
        ["table ra: age -> 0..1 by first", "when - -> 1", "when - | - | - -> 1"],
        ["table ra: age, hue -> 0..1 by first", "when - -> 1"],
        ["table ra: age, hue -> 0..1 by first", "when  -> 1"],
        ["table ra: age, hue -> 0..1 by first", "when -|- -> 1"],
        ["table ra: age, hue -> 0..1 by first", "when -| - -> 1"],
        ["table ra: age, hue -> 0..1 by first", "when - |- -> 1"],
        ["table ra: age, hue -> 0..1 by first", "when -, - -> 1"],
        ["table ra: age, hue -> 0..1 by first", "when - | - |  -> 1"],
        ["table ra: age, hue -> 0..1 by first", "when - | - | - -> 1"],
        ["table ra: age, hue -> 0..1 by first", "when  | - | - -> 1"],
        ["table ra: age, hue -> 0..1 by first", "when - -> - | 1"],
        ["table ra: age, hue -> 0..1 by first", "table rb: age -> 0..1 by first", "when - | - -> 1"],
    ],
    BadCell: [
        ["table ca: age -> 0..1 by first", "when  -> 1"],
        ["table ca: age -> 0..1 by first", "when 121 -> 1"],
        ["table ca: age -> 0..1 by first", "when red -> 1"],
        ["table ca: age -> 0..1 by first", "when 9..8 -> 1"],
        ["table ca: age -> 0..1 by first", "when - -> 1", "when not -> 1"],
        ["table ca: age -> 0..1 by first", "when 1,2 -> 1"],
        ["table ca: age -> 0..1 by first", "when  - -> 1"],
        ["table ca: age -> 0..1 by first", "when -  -> 1"],
        ["table ca: age -> 0..1 by first", "when -> 1 -> 1"],
        ["table ca: hue -> 0..1 by first", "when pink -> 1"],
        ["table ca: hue -> 0..1 by first", "when 0 -> 1"],
        ["table ca: hue -> 0..1 by first", "when red,green -> 1"],
        ["table ca: age, hue -> 0..1 by first", "when - |  -> 1"],
        ["table ca: age, hue -> 0..1 by first", "when  | - -> 1"],
        ["table ca: age, hue -> 0..1 by first", "when red | 5 -> 1"],
        ["table ca: age, hue -> 0..1 by first", "when - | | - -> 1"],
        ["table ca: cb -> 0..1 by first", "when 5 -> 1", "table cb: age -> 0..4 by first"],
        ["table ca: age -> 0..1 by first", "when 5 by 6 -> 1"],
    ],
    BadNumber: [
        ["table ba: age -> 0..1 by first", "when - -> " + value]
        for value in ("", "red", "01", "-0", "+1", "1 ", " 1", "1..1", "-", "--1", "1, 1", "1" + "0" * 60, "1 -> 1", "- -> 1")
    ],
    Outside: [
        ["table oa: age -> 0..1 by first", "when - -> 2"],
        ["table oa: age -> 0..1 by first", "when - -> -1"],
        ["table oa: age -> 0..1 by first", "when - -> 1" + "0" * 59],
        ["table oa: age -> red, green by first", "when - -> blue"],
        ["table oa: age -> red, green by first", "when - -> "],
        ["table oa: age -> red, green by first", "when - -> 0"],
        ["table oa: age -> red, green by first", "when - -> not"],
        ["table oa: age -> red, green by first", "when - -> red, green"],
        ["table oa: age -> red, green by first", "when - -> red "],
        ["table oa: age -> red, green by first", "when - -> red -> green"],
        ["table oa: age -> red, green by first", "when - -> - -> red"],
    ],
    Ring: [
        ["table ga: gb -> 0..1 by first", "table gb: ga -> 0..1 by first"],
        ["table ga: age, gb -> 0..1 by first", "table gb: ga, hue -> 0..1 by first"],
        ["table ga: gb -> 0..1 by first", "table gb: gc -> 0..1 by first", "table gc: ga -> 0..1 by first"],
        ["table ga: age, gb -> 0..1 by first", "table gb: gc -> 0..1 by first", "table gc: gb -> 0..1 by first"],
    ],
}
FEW = {error: causes[:3] + causes[-3:] for error, causes in CAUSES.items()}


def text_of(*blocks):
    return "\n".join(itertools.chain(*blocks))


class EachCause(ReadCase):
    def test_the_beginning_is_read(self):
        self.assertEqual(len(read_book(text_of(BEGINNING)).facts), 2)

    def test_order_and_causes(self):
        self.assertEqual(list(CAUSES), ORDER)

    def test_behind_the_facts(self):
        for error, causes in CAUSES.items():
            for cause in causes:
                with self.subTest(cause=cause[-1]):
                    self.assert_refused(error, read_book, text_of(BEGINNING, cause))

    def test_ahead_of_the_facts(self):
        for error, causes in CAUSES.items():
            for cause in causes:
                with self.subTest(cause=cause[-1]):
                    self.assert_refused(error, read_book, text_of(cause, BEGINNING))

    def test_among_what_is_right(self):
        right = ["table sa: age, hue -> 0..9 by first", "when 5 | red -> 7", "when - | - -> 9"]
        behind = ["table sb: sa -> red by only", "when 1..8 -> red"]
        self.assertEqual(len(read_book(text_of(BEGINNING, right, behind)).tables), 2)
        for error, causes in CAUSES.items():
            for cause in causes:
                with self.subTest(cause=cause[-1]):
                    self.assert_refused(error, read_book, text_of(BEGINNING, right, cause, behind))

    def test_agrees_with_the_plain_reading(self):
        for error, causes in CAUSES.items():
            for cause in causes:
                self.assertEqual(first_due(text_of(BEGINNING, cause)), error, cause)

    def test_a_row_above_the_first_table(self):
        table = ["table t: age -> 0..1 by first"]
        for lines in (["when - -> 1"], ["when - -> 1"] + BEGINNING + table, BEGINNING + ["when - -> 1"] + table):
            self.assert_refused(BadLine, read_book, text_of(lines))
        self.assertEqual(read_book(text_of(BEGINNING, table, ["when - -> 1"])).tables[0].rows, [([[(0, 120)]], 1)])

    def test_line_ends(self):
        for text in ("\n", "\n\n", PLAIN + "\n", "\n" + PLAIN, PLAIN.replace("\n", "\n\n", 1), "fact a 0..1\n", PLAIN + "\n "):
            self.assert_refused(BadLine, read_book, text)

    def test_a_blank_at_the_end_of_a_line(self):
        due = [BadDomain, BadDomain, BadWay, BadNumber, BadNumber, BadNumber, BadNumber, BadNumber]
        lines = PLAIN.split("\n")
        for k, error in enumerate(due):
            self.assert_refused(error, read_book, text_of(lines[:k], [lines[k] + " "], lines[k + 1:]))


class FirstClassOfTheOrder(ReadCase):
    def test_two_causes_the_later_class_further_up(self):
        for first, later in itertools.combinations(ORDER, 2):
            for one, other in itertools.product(FEW[first], FEW[later]):
                with self.subTest(first=one[-1], later=other[-1]):
                    self.assert_refused(first, read_book, text_of(BEGINNING, other, one))

    def test_two_causes_the_later_class_further_down(self):
        for first, later in itertools.combinations(ORDER, 2):
            for one, other in itertools.product(FEW[first], FEW[later]):
                with self.subTest(first=one[-1], later=other[-1]):
                    self.assert_refused(first, read_book, text_of(BEGINNING, one, other))

    def test_all_causes_from_each_class_on(self):
        for k, error in enumerate(ORDER):
            blocks = [CAUSES[other][-1] for other in ORDER[k:]]
            self.assert_refused(error, read_book, text_of(BEGINNING, *reversed(blocks)))
            self.assert_refused(error, read_book, text_of(BEGINNING, *blocks))

    def test_several_causes_in_one_table(self):
        head = "table t: age -> 0..1 by first"
        for error, lines in [
            (BadName, ["table T: age -> 1..0 by best", "when 1 | 2 -> x"]),
            (BadName, ["table t: nowhere -> 0..1 by first", "when 121 -> x"]),
            (BadDomain, ["table t: age -> 1..0 by best", "when 1 | 2 -> x"]),
            (BadWay, ["table t: age -> 0..1 by best", "when 1 | 2 -> x"]),
            (BadWay, ["table t: age -> red by sum", "when 1 | 2 -> 5"]),
            (BadRow, [head, "when 121 -> x", "when 1 | 2 -> x"]),
            (BadRow, [head, "when 121 | 2 -> x"]),
            (BadCell, [head, "when 1 -> x", "when 1 -> 5", "when 121 -> 1"]),
            (BadCell, [head, "when 121 -> x"]),
            (BadCell, [head, "when 121 -> 5"]),
            (BadNumber, [head, "when 1 -> 5", "when 1 -> x"]),
            (BadLine, ["table T: nowhere -> 1..0 by best", "when 1 | 2 -> x", "when 1"]),
        ]:
            self.assert_refused(error, read_book, text_of(BEGINNING, lines))

    def test_number_ahead_of_word(self):
        words = ["table wa: age -> red by first", "when - -> green"]
        numbers = ["table na: age -> 0..1 by first", "when - -> x"]
        self.assert_refused(BadNumber, read_book, text_of(BEGINNING, words, numbers))
        self.assert_refused(BadNumber, read_book, text_of(BEGINNING, numbers, words))

    def test_domain_of_a_table_further_down(self):
        lines = ["table ta: tb -> 0..1 by first", "when what -> 1", "table tb: age -> 5..4 by first"]
        self.assert_refused(BadDomain, read_book, text_of(BEGINNING, lines))

    def test_ring_comes_last(self):
        ring = ["table ga: gb -> 0..1 by first", "table gb: ga -> 0..1 by first"]
        for value, error in (("x", BadNumber), ("2", Outside), ("1", Ring)):
            self.assert_refused(error, read_book, text_of(ring, ["when - -> " + value]))

    def test_rings_of_up_to_30_tables(self):
        names = many_words(30)
        for count in (2, 3, 17, 30):
            lines = [f"table {names[k]}: {names[(k + 1) % count]} -> 0..1 by first" for k in range(count)]
            self.assert_refused(Ring, read_book, "\n".join(lines))
            opened = lines[:-1] + [f"table {names[count - 1]}: age -> 0..1 by first"]
            self.assertEqual(len(read_book(text_of(opened, BEGINNING)).tables), count)


class SignsBetweenTheParts(ReadCase):
    def test_each_sign_of_a_line_left_out_doubled_or_moved(self):
        lines = MIXED.split("\n")
        for k, line in enumerate(lines):
            changed = [line[:at] + line[at + 1:] for at in range(len(line))]
            changed += [line[:at] + line[at] + line[at:] for at in range(len(line))]
            changed += [line[:at] + line[at + 1] + line[at] + line[at + 2:] for at in range(len(line) - 1)]
            for other in changed:
                text = text_of(lines[:k], [other], lines[k + 1:])
                self.assertEqual(class_of(text), first_due(text), other)

    def test_each_sign_between_put_in_anywhere(self):
        lines = MIXED.split("\n")
        for k, line in enumerate(lines):
            for sign in (": ", " -> ", " by ", " | ", ", ", " ", "fact ", "table ", "when ", "\n", "not ", ".."):
                for at in range(len(line) + 1):
                    text = text_of(lines[:k], [line[:at] + sign + line[at:]], lines[k + 1:])
                    self.assertEqual(class_of(text), first_due(text), (line, sign, at))

    def test_any_sign_at_any_place(self):
        text = "fact a x, y\ntable t: a -> 0..9 by low\nwhen not y -> 3"
        for sign in SIGNS:
            for changed in with_sign_at_any_place(text, sign):
                self.assertEqual(class_of(changed), first_due(changed), changed)

    def test_rough_changes(self):
        chance = random.Random(84)
        signs = ["", " ", ": ", " -> ", " by ", " | ", ", ", "a", "age", "hue", "0", "1..2", "-", "first", "sum", "red", "\n"]
        seen = {}
        for turn in range(4000):
            text = chance.choice([PLAIN, MIXED, text_of(BEGINNING, chance.choice(CAUSES[chance.choice(ORDER)]))])
            text = text if len(text) < 600 else MIXED
            for k in range(chance.randint(1, 3)):
                at = chance.randint(0, len(text))
                text = text[:at] + chance.choice(signs) + text[at + chance.randint(0, 4):]
            due = first_due(text)
            self.assertEqual(class_of(text), due, text)
            seen[due] = seen.get(due, 0) + 1
        self.assertEqual(set(seen), set(ORDER + [None]))

    def test_lines_in_another_order(self):
        chance = random.Random(85)
        for turn in range(300):
            lines = MIXED.split("\n") + chance.choice(CAUSES[chance.choice(ORDER[2:])])
            chance.shuffle(lines)
            text = "\n".join(lines)
            self.assertEqual(class_of(text), first_due(text), text)

    def test_the_first_blank_of_a_fact_line(self):
        self.assertEqual(read_book("fact a b, c").facts[0][0], "a")
        self.assert_refused(BadDomain, read_book, "fact a b c")
        self.assert_refused(BadName, read_book, "fact a, b c")

    def test_the_last_by_of_a_table_line(self):
        fact = "fact by 0..1\n"
        self.assertEqual(read_book(fact + "table t: by -> by by first").tables[0].outcome.words, ["by"])
        self.assertEqual(read_book(fact + "table t: by -> a, by by low").tables[0].way, "low")
        self.assert_refused(BadWay, read_book, fact + "table t: by -> by by by")
        self.assert_refused(BadDomain, read_book, fact + "table t: by -> by by by by first")

    def test_the_first_arrow_of_a_row(self):
        head = "fact a 0..1\ntable t: a -> x, y by first\n"
        self.assertEqual(read_book(head + "when - -> y").tables[0].rows, [([[(0, 1)]], 1)])
        self.assert_refused(Outside, read_book, head + "when - -> x -> y")
        self.assert_refused(Outside, read_book, head + "when - -> - -> y")


class Showing(ReadCase):
    def test_plain(self):
        self.assertEqual(show_book(Book([("age", AGE), ("hue", HUE)], [fee_table()])), PLAIN)

    def test_nothing(self):
        self.assertEqual(show_book(Book([], [])), "")

    def test_facts_alone(self):
        self.assertEqual(show_book(Book([("hue", HUE)], [])), "fact hue red, green, blue")
        self.assertEqual(show_book(Book([("hue", HUE), ("age", AGE)], [])), "fact hue red, green, blue\nfact age 0..120")

    def test_facts_ahead_of_tables(self):
        self.assertEqual(show_book(read_book(MIXED)).split("\n"), [
            "fact age 0..120",
            "fact hue red, green, blue",
            "table due: fee, age -> low, mid, top by like",
            "when ..0 | - -> low",
            "when 1.. | ..17, 65.. -> mid",
            "table fee: hue, size -> -50..50 by sum",
            "table size: age -> 1..3 by only",
            "when ..9 -> 1",
            "when 10.. -> 3",
        ])

    def test_head_text(self):
        self.assertEqual(head_text(fee_table()), "table fee: age, hue -> -50..50 by first")
        self.assertEqual(head_text(age_table("only", [], HUE)), "table t: age -> red, green, blue by only")
        columns = Table("t", list("abcd"), [HUE] * 4, Numbers(7, 7), "sum", [])
        self.assertEqual(head_text(columns), "table t: a, b, c, d -> 7..7 by sum")
        for way in WAY_NAMES:
            self.assertEqual(head_text(fee_table(way)), "table fee: age, hue -> -50..50 by " + way)

    def test_head_text_is_without_rows(self):
        self.assertEqual(head_text(fee_table("low", [])), head_text(fee_table("low")))

    def test_row_text(self):
        lines = PLAIN.split("\n")[3:]
        self.assertEqual([row_text(fee_table(), k) for k in range(5)], lines)

    def test_row_text_of_words(self):
        table = words_table()
        self.assertEqual(row_text(table, 0), "when - | aa, bn -> bn")
        self.assertEqual(row_text(age_table("first", [([(0, 17), (19, 19), (65, 120)], 2)], HUE), 0), "when ..17, 19, 65.. -> blue")

    def test_row_text_of_60_figures(self):
        self.assertEqual(row_text(wide_table(), 1), f"when ..0, {GREAT} | 5..{GREAT - 1} -> {-GREAT}")

    def test_kinds(self):
        book = read_book(MIXED)
        self.assertIs(type(show_book(book)), str)
        self.assertIs(type(head_text(book.tables[0])), str)
        self.assertIs(type(row_text(book.tables[0], 1)), str)

    def test_nothing_is_changed(self):
        table = fee_table("first", copy.deepcopy(FEE_ROWS))
        book = Book([("age", AGE), ("hue", HUE)], [table])
        for turn in range(2):
            self.assertEqual(show_book(book), PLAIN)
            self.assertEqual(table_state(table), ("fee", ["age", "hue"], [AGE, HUE], FEE, "first", FEE_ROWS))
            self.assertEqual(book_state(book), ([("age", AGE), ("hue", HUE)], [table_state(table)]))


class ThereAndBack(ReadCase):
    def assert_back(self, book):
        text = show_book(book)
        again = read_book(text)
        self.assert_same_books(again, book)
        self.assertEqual(show_book(again), text)

    def test_plain(self):
        self.assert_back(read_book(PLAIN))
        self.assert_back(read_book(MIXED))
        self.assert_back(Book([], []))

    def test_rough_books(self):
        for seed in range(200):
            self.assert_back(rough_book(seed))

    def test_great_tables(self):
        for table in (wide_table(), words_table(), table_of_200_rows(), fee_table("only")):
            self.assert_back(Book(list(zip(table.names, table.domains)), [table]))

    def test_100_pairs_in_a_column(self):
        spans = [(2 * k, 2 * k) for k in range(100)]
        full = Words(many_words(40))
        rows = [([spans, [(2 * k, 2 * k) for k in range(20)]], 0), ([[], [(39, 39)]], 1)]
        table = Table("t", ["a", "b"], [Numbers(0, 1000), full], HUE, "only", rows)
        self.assert_back(Book([("b", full), ("a", Numbers(0, 1000))], [table]))

    def test_20_facts_and_30_tables(self):
        facts = [(name, Words([name, "x"])) for name in many_words(20)]
        tables = []
        for k in range(30):
            names = [facts[(k + j) % 20][0] for j in range(3)]
            domains = [dict(facts)[name] for name in names]
            if tables:
                names.append(tables[-1].name)
                domains.append(FEE)
            tables.append(Table("t" + many_words(30)[k], names, domains, FEE, WAY_NAMES[k % 6],
                                [([domain.whole() for domain in domains], k)]))
        self.assert_back(Book(facts, tables))
        self.assert_back(Book(facts[::-1], tables[::-1]))


if __name__ == "__main__":
    unittest.main()
