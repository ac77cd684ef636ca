import copy
import functools
import itertools
import unittest

from helpers import (
    AGE, CLASH, FEE, FEE_ROWS, GRAINS_ABOVE_300, GREAT, HUE, NONE, WAYS, RefusalCase, age_table, all_codes, fee_table,
    many_words, plain_bounds, plain_verdict, rough_table, say, table_of_200_rows, table_of_grain, table_state,
    wide_table, words_table,
)
from rowjudge.best import best, ledger
from rowjudge.domains import Numbers, Words
from rowjudge.errors import TooFine
from rowjudge.layers import table_marks
from rowjudge.tables import Table, with_rows

DEAREST = 10 ** 60


def plain_marks(table):
    # [6.3] code by code: where a step of one in one column turns some verdict.
    marks = [set() for domain in table.domains]
    for codes in all_codes(plain_bounds(table)):
        for column, code in enumerate(codes):
            before = codes[:column] + [code - 1] + codes[column + 1:]
            if code > table.domains[column].low and plain_verdict(table, before) != plain_verdict(table, codes):
                marks[column].add(code)
    return [sorted(some) for some in marks]


def plain_blocks(table):
    pairs = []
    for (low, high), marks in zip(plain_bounds(table), plain_marks(table)):
        ends = [mark - 1 for mark in marks] + [high]
        pairs.append([(first, last) for first in [low] + marks for last in ends if first <= last])
    return set(itertools.product(*pairs))


def least_prices(table, prices):
    # Told for any box, with a cut tried ahead of every code, be it a mark or not.
    verdicts = {tuple(codes): plain_verdict(table, codes) for codes in all_codes(plain_bounds(table))}

    @functools.lru_cache(maxsize=None)
    def least(box):
        if len({verdicts[tuple(codes)] for codes in all_codes(box)}) == 1:
            return 0
        costs = []
        for column, (low, high) in enumerate(box):
            for cut in range(low + 1, high + 1):
                sides = [box[:column] + (pair,) + box[column + 1:] for pair in ((low, cut - 1), (cut, high))]
                costs.append(prices[column] + max(least(side) for side in sides))
        return min(costs)

    return least


def plain_price(tree, prices):
    if tree[0] == "say":
        return 0
    return prices[tree[1]] + max(plain_price(tree[3], prices), plain_price(tree[4], prices))


def plain_walk(tree, codes):
    while tree[0] == "ask":
        tree = tree[3] if codes[tree[1]] < tree[2] else tree[4]
    return tree[1]


class BestCase(RefusalCase):
    def assert_tree(self, tree):
        # [6.1], rule by rule.
        self.assertIs(type(tree), tuple)
        if tree[0] == "say":
            self.assert_kinds(tree, (str, (str, int)))
            return
        self.assertEqual(tree[0], "ask")
        self.assertEqual(len(tree), 5)
        self.assert_kinds(tree[1:3], (int, int))
        self.assert_tree(tree[3])
        self.assert_tree(tree[4])

    def assert_best(self, table, prices=None, codes=None):
        # That the tree is sound; that there is no cheaper one is held elsewhere.
        told = best(table, prices)
        self.assertIs(type(told), tuple)
        self.assertEqual(len(told), 2)
        self.assertIs(type(told[0]), int)
        self.assert_tree(told[1])
        self.assertEqual(told[0], plain_price(told[1], prices or [1] * len(table.names)))
        for some in codes or all_codes(plain_bounds(table)):
            self.assertEqual(plain_walk(told[1], some), plain_verdict(table, some), some)
        self.assertEqual(ledger(table, prices)[tuple(plain_bounds(table))], told[0])
        return told[0]

    def assert_cheapest(self, table, prices=None):
        least = least_prices(table, prices or [1] * len(table.names))
        self.assertEqual(self.assert_best(table, prices), least(tuple(plain_bounds(table))))
        told = ledger(table, prices)
        self.assertIs(type(told), dict)
        self.assertEqual(set(told), plain_blocks(table))
        for block, price in told.items():
            self.assertEqual(price, least(block), block)
            self.assertIs(type(price), int)


class Plain(BestCase):
    def test_one_verdict_alone(self):
        self.assertEqual(best(age_table("first", [([(0, 120)], 7)])), (0, ("say", say(7))))
        self.assertEqual(best(fee_table("first", [])), (0, ("say", NONE)))
        self.assertEqual(best(age_table("only", [([(0, 120)], 7)] * 2)), (0, ("say", CLASH)))
        self.assertEqual(ledger(fee_table("first", [])), {((0, 120), (0, 2)): 0})

    def test_one_question(self):
        table = age_table("first", [([(0, 17)], 5), ([(18, 120)], 8)])
        self.assertEqual(best(table), (1, ("ask", 0, 18, ("say", say(5)), ("say", say(8)))))
        self.assertEqual(best(table, [30])[0], 30)
        self.assertEqual(ledger(table, [30]), {((0, 17),): 0, ((18, 120),): 0, ((0, 120),): 30})

    def test_ledger_of_two_marks(self):
        table = age_table("first", [([(10, 19)], 5)])
        self.assertEqual(ledger(table), {
            ((0, 9),): 0, ((10, 19),): 0, ((20, 120),): 0, ((0, 19),): 1, ((10, 120),): 1, ((0, 120),): 2,
        })

    def test_ledger_of_two_columns(self):
        # Rows fit where both columns are high: the blocks at the side need no question, or one.
        table = fee_table("first", [([[(18, 120)], [(2, 2)]], 5)])
        young, old, light, blue = (0, 17), (18, 120), (0, 1), (2, 2)
        self.assertEqual(ledger(table, [7, 100]), {
            (young, light): 0, (young, blue): 0, (old, light): 0, (old, blue): 0, (young, (0, 2)): 0, (old, (0, 2)): 100,
            ((0, 120), light): 0, ((0, 120), blue): 7, ((0, 120), (0, 2)): 107,
        })

    def test_rows_that_change_no_verdict_make_no_block(self):
        table = age_table("first", [([(0, 120)], 5), ([(10, 19)], 6)])
        self.assertEqual(table_marks(table), [[10, 20]])
        self.assertEqual(ledger(table), {((0, 120),): 0})
        self.assertEqual(best(table), (0, ("say", say(5))))

    def test_a_dear_question_stands_beneath_few_others(self):
        # Only at the first column's least code does the second one count: that code is told apart at once.
        rows = [([[(0, 0)], [(0, 0)]], 9)] + [([[(k, k)], [(0, 1)]], k) for k in range(4)]
        table = Table("t", ["a", "b"], [Numbers(0, 3), Numbers(0, 1)], FEE, "first", rows)
        self.assertEqual([best(table, prices)[0] for prices in ([1, 1], [1, 10], [10, 1])], [3, 11, 21])
        self.assertEqual(best(table, [1, 10])[1][:3], ("ask", 0, 1))
        self.assert_cheapest(table, [1, 10])

    def test_the_dearest_way_counts_not_the_number_of_questions(self):
        # Seven verdicts in a row: three questions one beneath another, not six.
        table = age_table("first", [([(10 * k, 10 * k + 9)], k) for k in range(7)] + [([(70, 120)], 7)])
        self.assertEqual(best(table)[0], 3)
        self.assertEqual(self.assert_best(table), 3)

    def test_same_verdicts_apart_from_each_other(self):
        table = age_table("first", [([(0, 9), (20, 29), (40, 49)], 1), ([(10, 19), (30, 39), (50, 120)], 2)])
        self.assertEqual(self.assert_best(table), 3)

    def test_same_tree_on_both_sides(self):
        # Both sides of the first column ask the same of the second one, so the first one need not be asked.
        rows = [([[(0, 0)], [(0, 0)]], 1), ([[(1, 2)], [(0, 0)]], 1)]
        table = Table("t", ["a", "b"], [HUE, HUE], FEE, "first", rows)
        self.assertEqual(best(table), (1, ("ask", 1, 1, ("say", say(1)), ("say", NONE))))

    def test_fee_table_in_each_way(self):
        for way in WAYS:
            for prices in (None, [3, 4], [1, 9]):
                self.assert_best(fee_table(way), prices)


class AllTrees(BestCase):
    def told_by_trees(self, domains, prices, verdicts):
        # For each function of the codes that some tree tells: the least price of such a tree. All trees are gone
        # through by their prices, the questions of a price with each pair of what cheaper trees tell.
        places = all_codes([(domain.low, domain.high) for domain in domains])
        asked = [(column, cut) for column, domain in enumerate(domains) for cut in range(domain.low, domain.high + 2)]
        sides = {ask: [codes[ask[0]] < ask[1] for codes in places] for ask in asked}
        due = len(verdicts) ** len(places)
        cheapest = {tuple([verdict] * len(places)): 0 for verdict in verdicts}
        price = 0
        while len(cheapest) < due:
            price += 1
            found = dict(cheapest)
            for ask in asked:
                cheaper = [told for told, cost in cheapest.items() if cost <= price - prices[ask[0]]]
                for below, above in itertools.product(cheaper, repeat=2):
                    told = tuple([one if side else other for side, one, other in zip(sides[ask], below, above)])
                    found.setdefault(told, price)
            cheapest = found
        return cheapest

    def table_that_tells(self, domains, told):
        rows = []
        for codes, verdict in zip(all_codes([(domain.low, domain.high) for domain in domains]), told):
            row = ([[(code, code)] for code in codes], verdict[1])
            rows += {"say": [row], "none": [], "clash": [row, row]}[verdict[0]]
        return Table("t", many_words(len(domains)), domains, FEE, "only", rows)

    def assert_all(self, domains, prices, verdicts):
        for told, price in self.told_by_trees(domains, prices, verdicts).items():
            table = self.table_that_tells(domains, told)
            self.assertEqual(self.assert_best(table, prices), price, (told, prices))

    def test_one_column(self):
        self.assert_all([Numbers(-1, 2)], [1], [NONE, CLASH, say(3)])
        self.assert_all([Words(many_words(3))], [2], [NONE, say(0), say(3)])
        self.assert_all([Numbers(4, 9)], [1], [say(4), say(0)])

    def test_two_columns(self):
        for prices in ([1, 1], [1, 3], [2, 1]):
            self.assert_all([Numbers(0, 1), Numbers(0, 1)], prices, [NONE, say(0), say(1)])
            self.assert_all([Numbers(5, 7), Words(["no", "yes"])], prices, [NONE, say(0)])

    def test_three_columns(self):
        for prices in ([1, 1, 1], [1, 2, 3]):
            self.assert_all([Numbers(0, 1)] * 3, prices, [CLASH, say(1)])


class CodeByCode(BestCase):
    def test_rough_tables(self):
        count = 0
        for seed in range(110):
            table = rough_table(seed, WAYS[seed % 6])
            if len(plain_blocks(table)) > 600:
                self.assert_refused(TooFine, best, table)
                self.assert_refused(TooFine, ledger, table)
                continue
            count += 1
            self.assert_cheapest(table)
            self.assert_cheapest(table, [1, 4, 2, 9][:len(table.names)])
            self.assert_cheapest(table, [DEAREST, 1, DEAREST - 1, 5][:len(table.names)])
        self.assertGreater(count, 70)

    def test_words_table(self):
        for way in ("first", "only", "like"):
            self.assert_cheapest(words_table(way))
            self.assert_cheapest(words_table(way), [DEAREST, 3])

    def test_each_code_is_its_own(self):
        # Wider codes with the same turns cost the same, block by block.
        for seed in range(40):
            table = rough_table(seed)
            if len(plain_blocks(table)) > 600:
                continue
            wider = self.widened(table, 10 ** 58)
            due = {tuple([(low * 10 ** 58, high * 10 ** 58 + 10 ** 58 - 1) for low, high in block]): price
                   for block, price in ledger(table).items()}
            self.assertEqual(ledger(wider), due)
            self.assertEqual(best(wider)[0], best(table)[0])

    def widened(self, table, wide):
        # Each code becomes so many codes, from wide times the code on.
        domains = [Numbers(domain.low * wide, domain.high * wide + wide - 1) for domain in table.domains]
        rows = []
        for cells, code in table.rows:
            rows.append(([[(low * wide, high * wide + wide - 1) for low, high in spans] for spans in cells], code))
        return Table(table.name, table.names, domains, table.outcome, table.way, rows)


class Prices(BestCase):
    def test_none_is_1_for_each(self):
        for seed in range(30):
            table = rough_table(seed, WAYS[seed % 6])
            if len(plain_blocks(table)) <= 600:
                ones = [1] * len(table.names)
                self.assertEqual(ledger(table), ledger(table, ones))
                self.assertEqual(ledger(table), ledger(table, None))
                self.assertEqual(best(table), best(table, ones))
                self.assertEqual(best(table), best(table, None))

    def test_k_times_as_dear(self):
        for seed in range(40):
            table = rough_table(seed, WAYS[seed % 6])
            if len(plain_blocks(table)) > 600:
                continue
            prices = [5, 2, 7, 3][:len(table.names)]
            for times in (2, 10, DEAREST // 7):
                dearer = [times * price for price in prices]
                self.assertEqual(ledger(table, dearer), {block: times * price for block, price in ledger(table, prices).items()})
                self.assertEqual(best(table, dearer)[0], times * best(table, prices)[0])

    def test_10_to_the_60(self):
        table = fee_table()
        self.assertEqual(best(table, [DEAREST] * 2)[0], DEAREST * best(table)[0])
        self.assertEqual(self.assert_best(table, [DEAREST] * 2), DEAREST * best(table)[0])
        self.assert_best(table, [1, DEAREST])
        self.assert_best(table, [DEAREST, 1])
        # One price is never taken for another: no rounding at 60 figures.
        rows = [([[(0, 0)], [(0, 0)]], 1)]
        both = Table("t", ["a", "b"], [Numbers(0, 1)] * 2, FEE, "first", rows)
        self.assertEqual(best(both, [DEAREST - 1, 1])[0], DEAREST)
        self.assertEqual(best(both, [DEAREST, DEAREST - 1])[0], 2 * DEAREST - 1)

    def test_prices_go_with_their_columns(self):
        for column in range(4):
            cells = [[(1, 1)] if k == column else [(0, 2)] for k in range(4)]
            table = Table("t", many_words(4), [HUE] * 4, FEE, "first", [(cells, 5)])
            self.assertEqual(best(table, [1, 10, 100, 1000])[0], 2 * 10 ** column)


class Bounds(BestCase):
    def counts_of(self, table):
        return [(len(marks) + 1) * (len(marks) + 2) // 2 for marks in plain_marks(table)]

    def small_table_of_grain(self, counts, way="first"):
        table = table_of_grain(counts, way)
        domains = [Numbers(0, count) for count in counts]
        rows = [([[(low, min(high, domain.high)) for low, high in spans] for spans, domain in zip(cells, domains)], code)
                for cells, code in table.rows]
        return Table("t", table.names, domains, table.outcome, way, rows)

    def test_600_blocks(self):
        for counts in ([4, 4, 3], [3, 4, 4], [4, 1, 4, 3], [3, 4, 4, 1]):
            table = self.small_table_of_grain(counts)
            told = ledger(table)
            self.assertEqual(len(told), 600)
            self.assertEqual(set(told), plain_blocks(table))
            self.assert_best(table, [7, 5, 3, 2][:len(counts)])
        self.assert_cheapest(self.small_table_of_grain([4, 4, 3], "sum"))

    def test_just_below_600_blocks(self):
        table = self.small_table_of_grain([34])
        self.assertEqual(len(ledger(table)), 595)
        self.assert_cheapest(table, [DEAREST])
        self.assertEqual(best(table)[0], 6)

    def test_above_600_blocks(self):
        for counts in ([35], [20, 2], [2, 20], [14, 3], [6, 4, 2], [6, 1, 4, 2], [1, 1, 1, 35]):
            table = self.small_table_of_grain(counts)
            product = 1
            for count in self.counts_of(table):
                product *= count
            self.assertEqual(product, 630)
            for call in (ledger, best):
                self.assert_refused(TooFine, call, table)
                self.assert_refused(TooFine, call, table, [1] * len(counts))
        for call in (ledger, best):
            self.assert_refused(TooFine, call, table_of_200_rows("first"))
            self.assert_refused(TooFine, call, table_of_grain([300]))

    def test_blocks_go_by_verdicts_not_by_edges(self):
        for counts in ([300], [15, 20], [2, 3, 50], [5, 5, 4, 3]):
            table = table_of_grain(counts)
            covered = with_rows(table, [([[(0, 500)]] * len(counts), 5)] + table.rows)
            self.assertEqual(ledger(covered), {((0, 500),) * len(counts): 0})
            self.assertEqual(best(covered), (0, ("say", say(5))))

    def test_grain_above_300(self):
        for counts in GRAINS_ABOVE_300:
            table = table_of_grain(counts)
            covered = with_rows(table, [([[(0, 500)]] * len(counts), 5)] + table.rows)
            for call in (ledger, best):
                self.assert_refused(TooFine, call, table)
                self.assert_refused(TooFine, call, covered)

    def test_200_rows(self):
        # 34 stretches in one column, 200 rows that overlap.
        rows = [([[(min(k % 34, 7 * k % 34), max(k % 34, 7 * k % 34))]], k % 9) for k in range(200)]
        for way in WAYS:
            self.assert_cheapest(Table("t", ["a"], [Numbers(0, 33)], Numbers(0, 60), way, rows))

    def test_one_code(self):
        table = Table("t", ["a"], [Words(["so"])], HUE, "first", [([[(0, 0)]], 2)])
        self.assertEqual(best(table, [DEAREST]), (0, ("say", say(2))))
        self.assertEqual(ledger(table, [DEAREST]), {((0, 0),): 0})

    def test_60_figures(self):
        ends = [-GREAT, -GREAT + 1, -8, -7, 0, 1, 4, 5, 6, GREAT - 1, GREAT]
        for way in WAYS:
            table = wide_table(way)
            for prices in (None, [DEAREST, 1], [1, DEAREST]):
                self.assert_best(table, prices, all_codes_of(ends))
            for block in ledger(table):
                for low, high in block:
                    self.assertTrue(-GREAT <= low <= high <= GREAT)
        table = Table("t", ["a"], [Numbers(-GREAT, GREAT)], FEE, "first", [([[(-GREAT, -1)]], 1)])
        self.assertEqual(ledger(table), {((-GREAT, -1),): 0, ((0, GREAT),): 0, ((-GREAT, GREAT),): 1})
        self.assertEqual(best(table), (1, ("ask", 0, 0, ("say", say(1)), ("say", NONE))))


def all_codes_of(ends):
    return [list(codes) for codes in itertools.product(ends, repeat=2)]


class NothingIsChanged(BestCase):
    def test_table_and_prices(self):
        for call in (ledger, best):
            table = fee_table("only")
            prices = [6, 2]
            told = call(table, prices)
            self.assertEqual(call(table, prices), told)
            self.assertEqual(prices, [6, 2])
            self.assertEqual(table_state(table), ("fee", ["age", "hue"], [AGE, HUE], FEE, "only", FEE_ROWS))

    def test_told_anew_each_time(self):
        table = fee_table()
        told = ledger(table)
        kept = copy.deepcopy(told)
        tree = best(table)
        told.clear()
        self.assertEqual(ledger(table), kept)
        self.assertEqual(best(table), tree)


if __name__ == "__main__":
    unittest.main()
