import copy
import itertools
import random
import unittest

from helpers import AGE, FEE, HUE, LETTERS, NONE, RefusalCase, many_words, say, table_state
from rowjudge.books import Book, asks, needs, order_of, table_of
from rowjudge.domains import Numbers, Words
from rowjudge.errors import BadName, NoTable, Ring, TooMany, Unlike
from rowjudge.tables import Table, verdict

# Facts and outcomes of this domain fit any column of it, so what matters is the names alone.
ANY = Numbers(0, 9)
NAMES = [letter + "x" for letter in LETTERS] + [letter + "y" for letter in LETTERS]


def named(name, columns):
    return Table(name, columns, [ANY] * len(columns), ANY, "first", [])


def facts_of(count):
    return [(name, ANY) for name in many_words(count)]


def book_of(columns, facts):
    # columns: for each table's name those of its columns, in the tables' order.
    return Book([(name, ANY) for name in facts], [named(name, some) for name, some in columns.items()])


def ring_of(count, behind=()):
    # Each table asks the next one, the last one the first.
    return [named(NAMES[k], [NAMES[(k + 1) % count]] + list(behind)) for k in range(count)]


def table_that_asks_itself():
    # Table refuses such names, so no asker can make it; the book must not go round in it all the same.
    table = named("self", ["aa"])
    table.names[0] = "self"
    return table


DIAMOND = {
    "top": ["left", "fa", "right"],
    "left": ["fb", "base"],
    "right": ["base", "fc", "left"],
    "base": ["fd"],
    "alone": ["fe", "fa"],
}
FACTS = ["fe", "fd", "fc", "fb", "fa", "none"]


def plain_order(columns, name):
    # By the words of the interface: all that is needed for each column, with itself last, but for what stands already.
    order = []
    for column in columns[name]:
        if column in columns:
            order += [needed for needed in plain_order(columns, column) if needed not in order]
    return order + [name]


def rough_columns(seed):
    # Tables ask such as come earlier here; then they are written in any order.
    chance = random.Random(seed)
    facts = many_words(chance.randint(1, 20))
    chance.shuffle(facts)
    columns = {}
    for name in NAMES[:chance.randint(1, 12)]:
        choice = facts + list(columns) * 3
        columns[name] = list(dict.fromkeys(chance.choice(choice) for k in range(chance.randint(1, 4))))
    names = list(columns)
    chance.shuffle(names)
    return {name: columns[name] for name in names}, facts


class Making(RefusalCase):
    def test_plain(self):
        fee = Table("fee", ["age", "hue"], [AGE, HUE], FEE, "first", [([[(0, 17)], [(0, 2)]], 5)])
        due = Table("due", ["fee", "age"], [FEE, AGE], HUE, "only", [([[(-50, 5)], [(0, 120)]], 1)])
        book = Book([("age", AGE), ("hue", HUE)], [fee, due])
        self.assertEqual(book.facts, [("age", AGE), ("hue", HUE)])
        self.assertEqual(book.tables, [fee, due])
        self.assertIs(type(book.facts), list)
        self.assertIs(type(book.facts[0]), tuple)
        self.assertIs(type(book.tables), list)

    def test_nothing(self):
        book = Book([], [])
        self.assertEqual((book.facts, book.tables), ([], []))
        self.assertIs(type(book), Book)

    def test_facts_alone(self):
        self.assertEqual(Book([("age", AGE)], []).facts, [("age", AGE)])

    def test_20_facts(self):
        self.assertEqual(Book(facts_of(20), [named("t", ["aa", "at"])]).facts, facts_of(20))

    def test_30_tables(self):
        tables = [named(name, ["aa"]) for name in NAMES[:30]]
        self.assertEqual(Book(facts_of(20), tables).tables, tables)
        self.assertEqual(Book(facts_of(1), tables[::-1]).tables, tables[::-1])

    def test_21_facts(self):
        self.assert_refused(TooMany, Book, facts_of(21), [])
        self.assert_refused(TooMany, Book, facts_of(21), [named("t", ["aa"])])
        self.assert_refused(TooMany, Book, facts_of(40), [])

    def test_31_tables(self):
        self.assert_refused(TooMany, Book, facts_of(1), [named(name, ["aa"]) for name in NAMES[:31]])
        self.assert_refused(TooMany, Book, facts_of(20), [named(name, ["aa"]) for name in NAMES[:31]])
        self.assert_refused(TooMany, Book, facts_of(21), [named(name, ["aa"]) for name in NAMES[:31]])

    def test_fact_that_is_no_word(self):
        for name in ("", "not", "Age", "a b", "abcdefghijklm", "a1", "-", "age ", " age", "a\n"):
            self.assert_refused(BadName, Book, [(name, ANY)], [])
            self.assert_refused(BadName, Book, [("aa", ANY), (name, ANY)], [named("t", ["aa"])])
        self.assertEqual(Book([("nota", ANY), ("abcdefghijkl", ANY)], []).facts[0][0], "nota")

    def test_names_that_stand_twice(self):
        self.assert_refused(BadName, Book, [("aa", ANY), ("aa", ANY)], [])
        self.assert_refused(BadName, Book, [("aa", ANY), ("ab", ANY), ("aa", AGE)], [])
        self.assert_refused(BadName, Book, facts_of(1), [named("t", ["aa"]), named("t", ["aa"])])
        self.assert_refused(BadName, Book, facts_of(2), [named("ab", ["aa"])])
        self.assert_refused(BadName, Book, facts_of(2), [named("t", ["aa"]), named("u", ["aa"]), named("ab", ["aa"])])
        table = named("t", ["aa"])
        self.assert_refused(BadName, Book, facts_of(1), [table, table])

    def test_column_that_is_neither(self):
        self.assert_refused(BadName, Book, [], [named("t", ["aa"])])
        self.assert_refused(BadName, Book, facts_of(3), [named("t", ["aa", "ab", "ac", "ad"])])
        self.assert_refused(BadName, Book, facts_of(3), [named("t", ["ad", "ab"])])
        self.assert_refused(BadName, Book, facts_of(3), [named("t", ["aa"]), named("u", ["t", "v"])])

    def test_columns_that_are_facts_or_tables(self):
        tables = [named("t", ["aa", "ab"]), named("u", ["t", "aa"]), named("v", ["u", "t", "ac", "aa"])]
        for order in itertools.permutations(tables):
            self.assertEqual(Book(facts_of(3), list(order)).tables, list(order))

    def test_domain_of_a_fact(self):
        table = Table("t", ["age", "hue"], [Numbers(0, 120), Words(["red", "green", "blue"])], FEE, "first", [])
        self.assertEqual(Book([("hue", HUE), ("age", AGE)], [table]).tables, [table])
        for domain in (Numbers(0, 121), Numbers(1, 120), HUE, Words(many_words(30))):
            self.assert_refused(Unlike, Book, [("hue", HUE), ("age", domain)], [table])
        for domain in (Words(["red", "blue", "green"]), Words(["red", "green"]), Numbers(0, 2), AGE):
            self.assert_refused(Unlike, Book, [("age", AGE), ("hue", domain)], [table])

    def test_domain_of_a_table(self):
        fee = Table("fee", ["age"], [AGE], FEE, "first", [])
        for domain, error in ((Numbers(-50, 50), None), (Numbers(-50, 51), Unlike), (AGE, Unlike), (HUE, Unlike)):
            due = Table("due", ["age", "fee"], [AGE, domain], HUE, "first", [])
            for tables in ([fee, due], [due, fee]):
                if error:
                    self.assert_refused(error, Book, [("age", AGE)], tables)
                else:
                    self.assertEqual(Book([("age", AGE)], tables).tables, tables)

    def test_facts_that_no_table_has_may_have_any_domain(self):
        Book([("aa", ANY), ("age", AGE), ("hue", HUE)], [named("t", ["aa"])])

    def test_ring_of_one(self):
        self.assert_refused(BadName, named, "self", ["self"])
        self.assert_refused(Ring, Book, [], [table_that_asks_itself()])
        self.assert_refused(Ring, Book, facts_of(1), [named("t", ["aa"]), table_that_asks_itself()])

    def test_rings_of_two_and_more(self):
        for count in (2, 3, 4, 17, 30):
            for tables in (ring_of(count), ring_of(count)[::-1]):
                self.assert_refused(Ring, Book, [], tables)
            self.assert_refused(Ring, Book, facts_of(2), ring_of(count, ["aa", "ab"]))

    def test_ring_beside_and_beneath_others(self):
        ring = ring_of(3, ["aa"])
        beside = named("t", ["aa"])
        above = named("u", ["t", NAMES[1]])
        beneath = named("v", ["aa", "t"])
        for tables in ([beside] + ring, ring + [beside, above], [above, beneath, beside] + ring):
            self.assert_refused(Ring, Book, facts_of(1), tables)
        tables = [named(NAMES[k], [NAMES[k + 1], "aa"]) for k in range(29)] + [named(NAMES[29], [NAMES[25], "aa"])]
        self.assert_refused(Ring, Book, facts_of(1), tables)

    def test_two_ways_to_one_table_are_no_ring(self):
        self.assertEqual(len(book_of(DIAMOND, FACTS).tables), 5)
        tables = [named(NAMES[k], [NAMES[k + 1], "aa"]) for k in range(29)] + [named(NAMES[29], ["aa"])]
        self.assertEqual(Book(facts_of(1), tables).tables, tables)
        self.assertEqual(Book(facts_of(1), tables[::-1]).tables, tables[::-1])


class OrderOfRefusals(RefusalCase):
    def faulty(self, many, bad, unlike, ring):
        # A book with just the faults that are asked for; each kind of each fault stands by itself.
        facts = facts_of(2)
        tables = [named("t", ["aa", "ab"])]
        if many == "facts":
            facts = facts_of(21)
        if many == "tables":
            tables += [named(name, ["aa"]) for name in NAMES[:30]]
        if bad == "word":
            facts = facts[:-1] + [("Bad", ANY)] + facts[-1:]
        if bad == "twice":
            facts = facts + [("t", ANY)]
        if bad == "column":
            tables += [named("badcol", ["nowhere"])]
        if unlike == "fact":
            tables = [Table("unfact", ["aa"], [AGE], ANY, "first", [])] + tables
        if unlike == "table":
            tables += [Table("untable", ["t"], [HUE], ANY, "first", [])]
        if ring == "one":
            tables = [table_that_asks_itself()] + tables
        if ring == "two":
            tables = [named("ra", ["rb"]), named("rb", ["ra"])] + tables
        return facts, tables

    def test_first_class_of_the_order(self):
        kinds = [(None, "facts", "tables"), (None, "word", "twice", "column"), (None, "fact", "table"), (None, "one", "two")]
        for faults in itertools.product(*kinds):
            facts, tables = self.faulty(*faults)
            due = [error for error, fault in zip((TooMany, BadName, Unlike, Ring), faults) if fault]
            if due:
                self.assert_refused(due[0], Book, facts, tables)
            else:
                self.assertEqual(Book(facts, tables).tables, tables)

    def test_each_is_looked_for_through_all_ahead_of_the_next(self):
        # The later class stands further up, in the same table or another one.
        unlike = Table("ua", ["aa"], [AGE], ANY, "first", [])
        self.assert_refused(BadName, Book, facts_of(1), [unlike, named("t", ["nowhere"])])
        mixed = Table("ua", ["aa", "nowhere"], [AGE, ANY], ANY, "first", [])
        self.assert_refused(BadName, Book, facts_of(1), [mixed])
        self.assert_refused(Unlike, Book, facts_of(1), ring_of(2) + [unlike])
        around = [Table("ra", ["rb"], [AGE], ANY, "first", []), named("rb", ["ra"])]
        self.assert_refused(Unlike, Book, [], around)
        self.assert_refused(Unlike, Book, [], around[::-1])


class Finding(RefusalCase):
    def test_table_of(self):
        book = book_of(DIAMOND, FACTS)
        for k, name in enumerate(DIAMOND):
            self.assertIs(type(table_of(book, name)), Table)
            self.assertEqual(table_state(table_of(book, name)), table_state(book.tables[k]))

    def test_table_of_is_the_table(self):
        fee = Table("fee", ["age"], [AGE], FEE, "first", [([[(0, 17)]], 5)])
        book = Book([("age", AGE)], [fee])
        self.assertEqual([verdict(table_of(book, "fee"), [code]) for code in (17, 18)], [say(5), NONE])

    def test_asks(self):
        book = book_of(DIAMOND, FACTS)
        told = {name: asks(book, name) for name in DIAMOND}
        self.assertEqual(told, {"top": ["left", "right"], "left": ["base"], "right": ["base", "left"], "base": [], "alone": []})
        for names in told.values():
            self.assert_kinds(names, [str])

    def test_asks_in_the_order_of_the_columns(self):
        columns = {"a": ["f"], "b": ["f"], "c": ["f"]}
        for order in itertools.permutations(["a", "f", "c", "b"]):
            book = book_of({"t": list(order), **columns}, ["f"])
            self.assertEqual(asks(book, "t"), [name for name in order if name != "f"])

    def test_no_such_table(self):
        book = book_of(DIAMOND, FACTS)
        for call in (table_of, asks, order_of, needs):
            for name in ("fa", "none", "", "not", "Top", "top ", "nowhere", "to"):
                self.assert_refused(NoTable, call, book, name)
            self.assert_refused(NoTable, call, Book([], []), "top")
            self.assert_refused(NoTable, call, Book([("age", AGE)], []), "age")


class OrderAndNeeds(RefusalCase):
    def test_one_table(self):
        book = book_of({"t": ["fb", "fa"]}, ["fa", "fb", "fc"])
        self.assertEqual(order_of(book, "t"), ["t"])
        self.assertEqual(needs(book, "t"), ["fa", "fb"])

    def test_several_ways_to_one_table(self):
        book = book_of(DIAMOND, FACTS)
        self.assertEqual(order_of(book, "top"), ["base", "left", "right", "top"])
        self.assertEqual(order_of(book, "right"), ["base", "left", "right"])
        self.assertEqual(order_of(book, "left"), ["base", "left"])
        self.assertEqual(order_of(book, "base"), ["base"])
        self.assertEqual(order_of(book, "alone"), ["alone"])

    def test_needs(self):
        book = book_of(DIAMOND, FACTS)
        self.assertEqual(needs(book, "top"), ["fd", "fc", "fb", "fa"])
        self.assertEqual(needs(book, "right"), ["fd", "fc", "fb"])
        self.assertEqual(needs(book, "left"), ["fd", "fb"])
        self.assertEqual(needs(book, "base"), ["fd"])
        self.assertEqual(needs(book, "alone"), ["fe", "fa"])

    def test_kinds(self):
        book = book_of(DIAMOND, FACTS)
        for call in (order_of, needs):
            self.assert_kinds(call(book, "top"), [str])

    def test_order_goes_by_columns_not_by_the_book(self):
        columns = {"a": ["f"], "t": ["c", "a", "b"], "b": ["f"], "c": ["f"]}
        self.assertEqual(order_of(book_of(columns, ["f"]), "t"), ["c", "a", "b", "t"])
        deeper = {"t": ["a", "b"], "a": ["c"], "b": ["d"], "c": ["f"], "d": ["c", "e"], "e": ["f"]}
        self.assertEqual(order_of(book_of(deeper, ["f"]), "t"), ["c", "a", "e", "d", "b", "t"])

    def test_a_column_that_stands_already(self):
        # `b` is needed for `a`, so it stands when its own turn comes.
        columns = {"t": ["a", "b", "f"], "a": ["b"], "b": ["f"]}
        self.assertEqual(order_of(book_of(columns, ["f"]), "t"), ["b", "a", "t"])
        columns = {"t": ["b", "a", "f"], "a": ["b"], "b": ["f"]}
        self.assertEqual(order_of(book_of(columns, ["f"]), "t"), ["b", "a", "t"])

    def test_tables_ahead_of_those_that_they_ask(self):
        names = list(DIAMOND)
        for order in itertools.permutations(names):
            book = book_of({name: DIAMOND[name] for name in order}, FACTS)
            self.assertEqual(order_of(book, "top"), ["base", "left", "right", "top"])
            self.assertEqual(needs(book, "top"), ["fd", "fc", "fb", "fa"])

    def test_no_facts_needed_twice(self):
        columns = {"t": ["a", "f", "g"], "a": ["f", "g"]}
        self.assertEqual(needs(book_of(columns, ["g", "f", "h"]), "t"), ["g", "f"])

    def test_chain_of_30_tables(self):
        columns = {NAMES[k]: [NAMES[k + 1], "f"] for k in range(29)}
        columns[NAMES[29]] = ["g"]
        book = book_of(columns, ["f", "g"])
        self.assertEqual(order_of(book, NAMES[0]), NAMES[:30][::-1])
        self.assertEqual(needs(book, NAMES[0]), ["f", "g"])
        self.assertEqual(needs(book, NAMES[29]), ["g"])

    def test_very_many_ways_to_one_table(self):
        # Each table asks the four behind it: gone through way by way, it would take very long.
        columns = {NAMES[k]: NAMES[k + 1:min(k + 5, 30)] or ["f"] for k in range(30)}
        book = book_of(columns, ["f"])
        self.assertEqual(order_of(book, NAMES[0]), NAMES[:30][::-1])
        self.assertEqual(needs(book, NAMES[0]), ["f"])

    def test_20_facts(self):
        columns = {NAMES[k]: many_words(20)[4 * k:4 * k + 4] for k in range(5)}
        columns["low"] = NAMES[:4]
        columns["top"] = ["low", NAMES[4]]
        book = book_of(columns, many_words(20)[::-1])
        self.assertEqual(needs(book, "top"), many_words(20)[::-1])
        self.assertEqual(needs(book, "low"), many_words(20)[15::-1])
        self.assertEqual(order_of(book, "top"), NAMES[:4] + ["low", NAMES[4], "top"])

    def test_by_the_words(self):
        for seed in range(150):
            columns, facts = rough_columns(seed)
            book = book_of(columns, facts)
            for name in columns:
                order = plain_order(columns, name)
                self.assertEqual(order_of(book, name), order)
                used = {column for needed in order for column in columns[needed]}
                self.assertEqual(needs(book, name), [fact for fact in facts if fact in used])
                self.assertEqual(asks(book, name), [column for column in columns[name] if column in columns])
                self.assertEqual(table_of(book, name).names, columns[name])


class NothingIsChanged(RefusalCase):
    def test_lists_of_its_own(self):
        facts = [("age", AGE), ("hue", HUE)]
        tables = [Table("fee", ["age"], [AGE], FEE, "first", [])]
        kept = copy.copy(tables)
        book = Book(facts, tables)
        self.assertEqual((facts, tables), ([("age", AGE), ("hue", HUE)], kept))
        facts.clear()
        tables.append(named("t", ["aa"]))
        self.assertEqual(book.facts, [("age", AGE), ("hue", HUE)])
        self.assertEqual(book.tables, kept)
        self.assertEqual(needs(book, "fee"), ["age"])
        self.assert_refused(NoTable, table_of, book, "t")

    def test_what_is_told_is_the_askers_own(self):
        book = book_of(DIAMOND, FACTS)
        for call in (asks, order_of, needs):
            told = call(book, "top")
            kept = list(told)
            told.clear()
            told.append("alone")
            self.assertEqual(call(book, "top"), kept)
        self.assertEqual(table_of(book, "top").names, DIAMOND["top"])
        self.assertEqual(book.facts, [(name, ANY) for name in FACTS])


if __name__ == "__main__":
    unittest.main()
