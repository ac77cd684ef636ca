import copy
import itertools
import random
import unittest

from helpers import (
    CLASH, FEE, GREAT, NONE, RefusalCase, book_state, due_text, many_words, plain_ask, plain_mask, plain_needs,
    plain_verdicts, rough_book, say,
)
from rowjudge.asking import ask, ask_codes, fact_codes, trail
from rowjudge.books import Book, order_of
from rowjudge.domains import Numbers, Words
from rowjudge.errors import NoFact, NoTable, Outside
from rowjudge.reading import read_book
from rowjudge.tables import Table

TEXT = due_text("only", "sum")
BOOK = read_book(TEXT)

# A column of numbers 0 to 9 that a table takes from others: said, none below 3, a clash above 6.
PART = "\n".join(["when 3..6 -> 5", "when 7.. -> 8", "when 7.. -> 8"])


def silent_book(names):
    # `top` asks the tables of these names; each takes a fact of its own and says, is silent or clashes by it.
    lines = ["fact f" + name + " 0..9" for name in names]
    for name in names:
        lines += ["table " + name + ": f" + name + " -> 0..9 by only", PART]
    lines += ["table top: " + ", ".join(names) + " -> 0..9 by sum", "when " + " | ".join("-" for name in names) + " -> 4"]
    return read_book("\n".join(lines))


def chain(count):
    # Each table asks the one or two behind it, the last one a fact: very many ways lead to it.
    names = many_words(count)
    tables = []
    for k in range(count):
        columns = names[k + 1:k + 3] or ["fact"]
        rows = [([[(0, 9)] for name in columns], 1), ([[(5, 9)] for name in columns], 2)]
        tables.append(Table(names[k], columns, [Numbers(0, 9) for name in columns], Numbers(0, 9), "sum", rows))
    return Book([("fact", Numbers(0, 9))], tables)


class CountedRows(list):
    # Rows that tell how often they were gone through or looked up.
    looked = 0

    def __iter__(self):
        self.looked += 1
        return list.__iter__(self)

    def __getitem__(self, k):
        self.looked += 1
        return list.__getitem__(self, k)


class FactCodes(RefusalCase):
    def test_plain(self):
        self.assertEqual(fact_codes(BOOK, "fee", {"age": 12, "hue": "blue"}), {"hue": 2, "age": 12})
        self.assertEqual(fact_codes(BOOK, "odd", {"size": -3, "age": 120, "hue": "red"}), {"hue": 0, "age": 120, "size": -3})

    def test_kinds(self):
        told = fact_codes(BOOK, "odd", {"size": -3, "age": 120, "hue": "red"})
        self.assertIs(type(told), dict)
        for fact, code in told.items():
            self.assertIs(type(fact), str)
            self.assertIs(type(code), int)

    def test_in_the_order_of_needs(self):
        values = {"size": 0, "age": 1, "hue": "red"}
        for order in itertools.permutations(values):
            told = fact_codes(BOOK, "odd", {name: values[name] for name in order})
            self.assertEqual(list(told.items()), [("hue", 0), ("age", 1), ("size", 0)])

    def test_facts_beside_those_needed_are_not_looked_at(self):
        for other in (5, "red", None, True, "", 10 ** 70, [], "not"):
            facts = {"size": other, "age": 12, "what": other, "": other, "hue": "blue", "due": other, "fee": other}
            self.assertEqual(fact_codes(BOOK, "fee", facts), {"hue": 2, "age": 12})
            self.assertEqual(ask(BOOK, "fee", facts), say(5))

    def test_missing(self):
        values = {"hue": "red", "age": 12, "size": 0}
        for missing in values:
            facts = {name: value for name, value in values.items() if name != missing}
            for call in (fact_codes, trail, ask):
                self.assert_refused(NoFact, call, BOOK, "odd", facts)
        for call in (fact_codes, trail, ask):
            self.assert_refused(NoFact, call, BOOK, "odd", {})
            self.assert_refused(NoFact, call, BOOK, "fee", {"Age": 12, "hue ": "red", "size": 0})

    def test_not_borne(self):
        values = {"hue": "red", "age": 12, "size": 0}
        wrong = {
            "hue": ["pink", "", "Red", "red ", 0, 1, True, False, None, "not"],
            "age": [-1, 121, GREAT, "12", "red", "", True, False, None],
            "size": [-4, 4, True, False, None, "0"],
        }
        for name, others in wrong.items():
            for other in others:
                for call in (fact_codes, trail, ask):
                    self.assert_refused(Outside, call, BOOK, "odd", {**values, name: other})

    def test_the_first_of_several(self):
        # In the order of needs: hue, age, size; None here is a value that is not borne, "gone" stands for a missing one.
        right = {"hue": "red", "age": 12, "size": 0}
        for kinds in itertools.product(["right", "gone", "wrong"], repeat=3):
            facts = {}
            for name, kind in reversed(list(zip(right, kinds))):
                if kind != "gone":
                    facts[name] = right[name] if kind == "right" else None
            faults = [NoFact if kind == "gone" else Outside for kind in kinds if kind != "right"]
            for call in (fact_codes, trail, ask):
                if faults:
                    self.assert_refused(faults[0], call, BOOK, "odd", facts)
                else:
                    call(BOOK, "odd", facts)

    def test_no_table_ahead_of_the_others(self):
        for name in ("nowhere", "age", "", "Due", "due ", "not"):
            for facts in ({}, {"age": 121}, {"hue": "red", "age": 12, "size": 0}):
                for call in (fact_codes, trail, ask):
                    self.assert_refused(NoTable, call, BOOK, name, facts)
                    self.assert_refused(NoTable, call, Book([], []), name, facts)

    def test_ends_of_domains(self):
        wide = Numbers(-GREAT, GREAT)
        full = Words(many_words(40))
        book = Book([("a", wide), ("b", full)], [Table("t", ["b", "a"], [full, wide], FEE, "first", [])])
        self.assertEqual(fact_codes(book, "t", {"a": GREAT, "b": "aa"}), {"a": GREAT, "b": 0})
        self.assertEqual(fact_codes(book, "t", {"a": -GREAT, "b": "bn"}), {"a": -GREAT, "b": 39})
        self.assert_refused(Outside, fact_codes, book, "t", {"a": GREAT + 1, "b": "aa"})

    def test_20_facts_of_which_one_is_needed(self):
        facts = [(name, Numbers(0, k)) for k, name in enumerate(many_words(20))]
        book = Book(facts, [Table("t", ["at"], [Numbers(0, 19)], FEE, "first", [([[(19, 19)]], 3)])])
        self.assertEqual(fact_codes(book, "t", {"at": 19}), {"at": 19})
        self.assertEqual(ask(book, "t", {"at": 19, "aa": 1}), say(3))
        self.assertEqual(ask_codes(book, "t", [18]), NONE)


class Trail(RefusalCase):
    def test_one_table(self):
        self.assertEqual(trail(BOOK, "fee", {"age": 12, "hue": "blue"}), [("fee", [12, 2], 1, say(5))])
        self.assertEqual(trail(BOOK, "fee", {"age": 12, "hue": "red"}), [("fee", [12, 0], 3, CLASH)])
        self.assertEqual(trail(BOOK, "fee", {"age": 65, "hue": "red"}), [("fee", [65, 0], 0, NONE)])

    def test_through_others(self):
        self.assertEqual(trail(BOOK, "odd", {"age": 5, "hue": "red", "size": 3}), [
            ("fee", [5, 0], 1, say(5)), ("due", [5, 5], 1, say(2)), ("odd", [3, 2], 6, say(9)),
        ])

    def test_none_and_clash_go_through(self):
        self.assertEqual(trail(BOOK, "odd", {"age": 5, "hue": "green", "size": 3}), [
            ("fee", [5, 1], 0, NONE), ("due", None, 0, NONE), ("odd", None, 0, NONE),
        ])
        self.assertEqual(trail(BOOK, "odd", {"age": 12, "hue": "red", "size": 3}), [
            ("fee", [12, 0], 3, CLASH), ("due", None, 0, CLASH), ("odd", None, 0, CLASH),
        ])

    def test_the_table_itself_is_silent(self):
        # All columns say something, and no row fits: the codes are told, not None.
        book = read_book("fact a 0..9\ntable t: a -> 0..9 by first\nwhen - -> 3\ntable u: t -> 0..9 by first\nwhen 4.. -> 1")
        self.assertEqual(trail(book, "u", {"a": 0}), [("t", [0], 1, say(3)), ("u", [3], 0, NONE)])

    def test_in_the_order_of_order_of(self):
        for seed in range(60):
            book = rough_book(seed)
            for table in book.tables:
                facts = {fact: domain.worth(domain.low) for fact, domain in book.facts}
                told = trail(book, table.name, facts)
                self.assertEqual([step[0] for step in told], order_of(book, table.name))

    def test_steps_against_a_plain_reading(self):
        for seed in range(60):
            book = rough_book(seed)
            chance = random.Random(seed)
            tables = {table.name: table for table in book.tables}
            codes = {fact: chance.randint(domain.low, domain.high) for fact, domain in book.facts}
            facts = {fact: domain.worth(codes[fact]) for fact, domain in book.facts}
            for name in tables:
                for step in trail(book, name, facts):
                    columns = [plain_ask(book, column, codes) for column in tables[step[0]].names]
                    own = [code for kind, code in columns]
                    if all(kind == "say" for kind, code in columns):
                        due = (own, plain_mask(tables[step[0]].rows, own))
                    else:
                        due = (None, 0)
                    self.assertEqual(step[1:3], due)
                    self.assertEqual(step[3], plain_ask(book, step[0], codes))

    def test_kinds(self):
        for facts in ({"age": 5, "hue": "red", "size": 3}, {"age": 5, "hue": "green", "size": 3}):
            told = trail(BOOK, "odd", facts)
            self.assertIs(type(told), list)
            for step in told:
                if step[1] is not None:
                    self.assert_kinds(step, (str, [int], int, (str, int)))
                else:
                    self.assert_kinds(step[2:], (int, (str, int)))
                self.assertIs(type(step), tuple)

    def test_bit_of_row_199(self):
        rows = [([[(k % 7, k % 7)]], 1) for k in range(199)] + [([[(9, 9)]], 4)]
        book = Book([("a", Numbers(0, 9))], [Table("t", ["a"], [Numbers(0, 9)], FEE, "only", rows)])
        self.assertEqual(trail(book, "t", {"a": 9}), [("t", [9], 1 << 199, say(4))])


class ColumnsThatSayNothing(RefusalCase):
    def test_the_first_one_in_the_columns_order(self):
        for count in (1, 2, 3, 4):
            names = list("dbca")[:count]
            book = silent_book(names)
            for values in itertools.product([0, 4, 9], repeat=count):
                told = [{0: NONE, 9: CLASH}.get(value) for value in values]
                due = ([verdict for verdict in told if verdict] + [say(4)])[0]
                self.assertEqual(ask(book, "top", {"f" + name: value for name, value in zip(names, values)}), due)
                self.assertEqual(ask_codes(book, "top", list(values)), due)

    def test_order_of_the_columns_not_of_the_book(self):
        lines = ["fact f 0..9"]
        parts = {"a": ["when ..4 -> 1"], "b": ["when - -> 1", "when 5.. -> 1"]}
        for own in itertools.permutations("ab"):
            for columns in ("a, b", "b, a", "a, f, b", "f, b, a"):
                text = list(lines)
                for name in own:
                    text += ["table " + name + ": f -> 0..9 by only"] + parts[name]
                text += ["table t: " + columns + " -> 0..9 by first"]
                book = read_book("\n".join(text))
                due = NONE if columns.index("a") < columns.index("b") else CLASH
                self.assertEqual(ask(book, "t", {"f": 7}), due)
                self.assertEqual(ask(book, "t", {"f": 3}), NONE)

    def test_no_row_is_looked_at(self):
        # Rows that fit all codes say nothing where a column says nothing.
        for way in ("first", "low", "high", "sum", "like", "only"):
            text = "fact a 0..9\ntable t: a -> 0..9 by first\nwhen 5.. -> 3\ntable u: t, a -> 0..9 by " + way + "\nwhen - | - -> 2"
            book = read_book(text)
            self.assertEqual(ask(book, "u", {"a": 4}), NONE)
            self.assertEqual(ask(book, "u", {"a": 5}), say(2))
            self.assertEqual(trail(book, "u", {"a": 4})[1], ("u", None, 0, NONE))

    def test_rows_are_not_gone_through(self):
        book = read_book("fact a 0..9\ntable t: a -> 0..9 by first\ntable u: t -> 0..9 by first\nwhen - -> 2")
        book.tables[1].rows = CountedRows(book.tables[1].rows)
        self.assertEqual(ask(book, "u", {"a": 4}), NONE)
        self.assertEqual(book.tables[1].rows.looked, 0)


class Asking(RefusalCase):
    def test_plain(self):
        self.assertEqual(ask(BOOK, "due", {"age": 5, "hue": "red"}), say(2))
        self.assertEqual(ask(BOOK, "due", {"age": 30, "hue": "red"}), say(1))
        self.assertEqual(ask(BOOK, "due", {"age": 30, "hue": "green"}), NONE)
        self.assertEqual(ask(BOOK, "due", {"age": 10, "hue": "red"}), CLASH)
        self.assertEqual(ask(BOOK, "odd", {"age": 5, "hue": "red", "size": -2}), say(1))
        self.assertEqual(ask(BOOK, "odd", {"age": 30, "hue": "red", "size": 0}), NONE)

    def test_ask_codes(self):
        self.assertEqual(ask_codes(BOOK, "due", [0, 5]), say(2))
        self.assertEqual(ask_codes(BOOK, "due", [1, 30]), NONE)
        self.assertEqual(ask_codes(BOOK, "due", [0, 10]), CLASH)
        self.assertEqual(ask_codes(BOOK, "odd", [0, 5, -2]), say(1))

    def test_kinds(self):
        self.assert_kinds(ask(BOOK, "due", {"age": 5, "hue": "red"}), (str, int))
        self.assert_kinds(ask_codes(BOOK, "due", [1, 30]), (str, int))

    def test_ask_codes_refuses(self):
        for name in ("nowhere", "hue", "", "Due"):
            self.assert_refused(NoTable, ask_codes, BOOK, name, [0, 5])
            self.assert_refused(NoTable, ask_codes, Book([], []), name, [])

    def test_rough_books_code_by_code(self):
        seen = set()
        for seed in range(150):
            book = rough_book(seed)
            domains = dict(book.facts)
            for table in book.tables:
                needed = plain_needs(book, table.name)
                for codes, due in plain_verdicts(book, table.name):
                    facts = {fact: domains[fact].worth(code) for fact, code in zip(needed, codes)}
                    self.assertEqual(ask(book, table.name, facts), due)
                    self.assertEqual(ask_codes(book, table.name, codes), due)
                    seen.add(due[0])
        self.assertEqual(seen, {"say", "none", "clash"})

    def test_sum_is_kept_in_the_outcome(self):
        text = "fact a 0..9\ntable t: a -> 0..9 by sum\nwhen - -> 6\nwhen 5.. -> 7\ntable u: t -> 0..1 by first\nwhen 9 -> 1"
        book = read_book(text)
        self.assertEqual(trail(book, "u", {"a": 5}), [("t", [5], 3, say(9)), ("u", [9], 1, say(1))])

    def test_words_between_tables(self):
        text = "fact a 0..9\ntable t: u -> 0..9 by first\nwhen top -> 7\nwhen low -> 2\ntable u: a -> top, low by first\nwhen ..4 -> low\nwhen - -> top"
        book = read_book(text)
        self.assertEqual([ask(book, "t", {"a": k}) for k in range(10)], [say(2)] * 5 + [say(7)] * 5)

    def test_60_figures(self):
        wide = f"{-GREAT}..{GREAT}"
        book = read_book(f"fact a {wide}\ntable t: a -> {wide} by sum\nwhen - -> {GREAT}\nwhen ..0 -> {-GREAT}\n"
                         f"table u: t -> {wide} by only\nwhen {GREAT} -> 1\nwhen 0 -> {-GREAT}")
        self.assertEqual(ask(book, "u", {"a": 1}), say(1))
        self.assertEqual(ask(book, "u", {"a": 0}), say(-GREAT))
        self.assertEqual(ask_codes(book, "u", [GREAT]), say(1))


class EachTableJudgedOnce(RefusalCase):
    def test_very_many_ways_to_one_table(self):
        book = chain(30)
        top = book.tables[0].name
        told = trail(book, top, {"fact": 7})
        self.assertEqual(len(told), 30)
        self.assertEqual(len({step[0] for step in told}), 30)
        self.assertEqual(told[-1][3], ask(book, top, {"fact": 7}))
        self.assertEqual(ask_codes(book, top, [7]), told[-1][3])

    def test_rows_are_gone_through_as_often_as_for_the_table_alone(self):
        for call in (lambda book, name: trail(book, name, {"fact": 7}), lambda book, name: ask(book, name, {"fact": 7}),
                     lambda book, name: ask_codes(book, name, [7])):
            alone = []
            for k in range(12):
                book = chain(12)
                last = book.tables[-1]
                last.rows = CountedRows(last.rows)
                call(book, book.tables[k].name)
                alone.append(last.rows.looked)
            self.assertGreater(alone[0], 0)
            self.assertEqual(alone, [alone[-1]] * 12)

    def test_tables_that_are_not_needed_are_not_judged(self):
        book = chain(12)
        book.tables[0].rows = CountedRows(book.tables[0].rows)
        ask(book, book.tables[1].name, {"fact": 7})
        self.assertEqual(book.tables[0].rows.looked, 0)


class NothingIsChanged(RefusalCase):
    def test_what_is_handed_in(self):
        book = read_book(TEXT)
        kept = copy.deepcopy([table.rows for table in book.tables])
        state = book_state(book)
        facts = {"size": 3, "age": 5, "hue": "red", "more": None}
        codes = [0, 5, 3]
        for turn in range(2):
            fact_codes(book, "odd", facts)
            trail(book, "odd", facts)
            self.assertEqual(ask(book, "odd", facts), say(9))
            self.assertEqual(ask_codes(book, "odd", codes), say(9))
        self.assertEqual(list(facts.items()), [("size", 3), ("age", 5), ("hue", "red"), ("more", None)])
        self.assertEqual(codes, [0, 5, 3])
        self.assertEqual([table.rows for table in book.tables], kept)
        self.assertEqual(book_state(book), state)

    def test_what_is_told_is_the_askers_own(self):
        facts = {"size": 3, "age": 5, "hue": "red"}
        due = copy.deepcopy(trail(BOOK, "odd", facts))
        told = trail(BOOK, "odd", facts)
        for step in told:
            step[1].clear()
        told.clear()
        codes = fact_codes(BOOK, "odd", facts)
        codes.clear()
        self.assertEqual(trail(BOOK, "odd", facts), due)
        self.assertEqual(fact_codes(BOOK, "odd", facts), {"hue": 0, "age": 5, "size": 3})

    def test_facts_changed_behind_the_call(self):
        facts = {"size": 3, "age": 5, "hue": "red"}
        codes = fact_codes(BOOK, "odd", facts)
        facts["age"] = 7
        facts["what"] = 3
        self.assertEqual(codes, {"hue": 0, "age": 5, "size": 3})


if __name__ == "__main__":
    unittest.main()
