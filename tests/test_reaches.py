import itertools

from tests.helpers import (
    Case, chosen_families, every_family, every_lot, gated_families, gated_row, gated_sample,
    small_families,
)
from tests.test_met import signed, true_met, true_pairs
from turnlots.bases import At
from turnlots.breaks import is_gated
from turnlots.errors import BadLot, BadNumber, BadPair, BadTable, BrokenMet, TooMany
from turnlots.families import Family
from turnlots.met import Pair, met
from turnlots.reaches import all_pairs, broken_met, family_of_met, met_table, reach_of


def all_breaches(size, table):
    """All breaches of the four met rules, in their order: point 38, word by word."""
    found = [] if table[((), ())] == 0 else [(1, (), (), ())]
    later = {2: [], 3: [], 4: []}
    for pair in true_pairs(size):
        m = table[pair]
        free = [x for x in range(size) if x not in pair[0] + pair[1]]
        for x in free:
            for s in (x, -1 - x):
                if table[signed(pair, s)] - m not in (0, 1):
                    later[2].append((2, *pair, (s,)))
            if table[signed(pair, x)] + table[signed(pair, -1 - x)] < 2 * m + 1:
                later[4].append((4, *pair, (x,)))
        for x, y in itertools.combinations(free, 2):
            for s, t in itertools.product((x, -1 - x), (y, -1 - y)):
                if table[signed(pair, s)] + table[signed(pair, t)] < m + table[signed(pair, s, t)]:
                    later[3].append((3, *pair, (s, t)))
    return found + later[2] + later[3] + later[4]


def true_table(family):
    return {pair: true_met(family, pair) for pair in true_pairs(family.size)}


class TablesTest(Case):
    def test_point_38_all_pairs_in_their_order(self):
        for size in range(1, 7):
            pairs = all_pairs(size)
            self.assertEqual([(pair.wanted, pair.unwanted) for pair in pairs], true_pairs(size))
            self.assertEqual(len(pairs), 3 ** size)
            self.assertTrue(all(isinstance(pair, Pair) for pair in pairs))

    def test_point_38_met_tables(self):
        for family in [*small_families(), *chosen_families((4, 6), 1)]:
            table = met_table(family)
            self.assert_same(table, true_table(family))
            self.assertEqual(list(table), true_pairs(family.size))

    def test_point_38_the_first_breach(self):
        for family in [*small_families(), *every_family(4, 1777)]:
            self.check_table(family.size, met_table(family))

    def check_table(self, size, table):
        breaches = all_breaches(size, table)
        self.assert_same(broken_met(size, table), breaches[0] if breaches else None)
        if breaches:
            self.assert_error(BrokenMet(breaches[0][0]), family_of_met, size, table)
        else:
            family = family_of_met(size, table)
            self.assertEqual(met_table(family), table)
            self.assertTrue(is_gated(family))

    def test_point_38_one_value_changed(self):
        for family in [*gated_families(2)[::2], *gated_families(3)[::20]]:
            right = met_table(family)
            for key, value in itertools.product(right, range(-1, 4)):
                table = {**right, key: value}
                self.check_table(family.size, table)

    def test_point_38_all_tables_of_size_1(self):
        for values in itertools.product(range(-1, 3), repeat=3):
            self.check_table(1, dict(zip(true_pairs(1), values)))

    def test_point_38_each_rule_broken_alone(self):
        pairs = true_pairs(3)
        ungated = Family.of(3, (), (0, 1, 2))
        alone = {
            1: {pair: value + 1 for pair, value in met_table(Family.everything(3)).items()},
            2: {pair: 2 * len(pair[0] + pair[1]) for pair in pairs},
            3: met_table(ungated),
            4: {pair: 0 for pair in pairs},
        }
        for rule, table in alone.items():
            breaches = all_breaches(3, table)
            self.assertEqual({breach[0] for breach in breaches}, {rule})
            self.assert_same(broken_met(3, table), breaches[0])
            self.assert_error(BrokenMet(rule), family_of_met, 3, table)
        self.assert_same(broken_met(3, alone[1]), (1, (), (), ()))
        self.assert_same(broken_met(3, alone[2]), (2, (), (), (0,)))
        self.assert_same(broken_met(3, alone[3]), (3, (), (0,), (1, 2)))
        self.assert_same(broken_met(3, alone[4]), (4, (), (), (0,)))

    def test_point_39_broken_exactly_if_not_gated_and_then_in_rule_3(self):
        for family in [*small_families(), *every_family(4, 501)]:
            breach = broken_met(family.size, met_table(family))
            self.assertEqual(breach is None, is_gated(family))
            self.assertTrue(breach is None or breach[0] == 3)

    def test_points_39_and_42_there_and_back(self):
        for size in (1, 2, 3, 4):
            for family in gated_families(size):
                self.assertEqual(family_of_met(size, met_table(family)), family)
        for family in [*gated_row(5), *gated_row(6)]:
            self.assertEqual(family_of_met(family.size, met_table(family)), family)

    def test_point_39_rule_4_matters_only_at_pairs_of_all_things_but_one(self):
        seen = 0
        for family in [*gated_families(2), *gated_families(3)[::10]]:
            right = met_table(family)
            for key in right:
                table = {**right, key: right[key] - 1}
                rules = all_breaches(family.size, table)
                if not any(rule[0] < 4 for rule in rules):
                    big = [rule for rule in rules if len(rule[1] + rule[2]) == family.size - 1]
                    self.assertEqual(bool(big), bool(rules))
                    seen += 1
        self.assertGreater(seen, 20)

    def test_point_42_bases_and_ranks_by_what_is_met(self):
        for family in list(gated_sample())[::4]:
            lots = every_lot(family.size)
            for lot in lots[::3]:
                at = At(family, lot)
                self.assertEqual(at.rank, family.size - met(family, Pair.full(lot, family.size)))
                for row in lots:
                    inside, outside = set(lot) - set(row), set(range(family.size)) - set(row) - set(lot)
                    pair = (sorted(inside), sorted(outside))
                    rank = at.rank - (family.size - len(row)) + met(family, pair)
                    self.assertEqual(at.rank_of(row), rank)

    def test_point_37_met_by_depth_and_rank(self):
        for family in list(gated_sample())[::4]:
            lots = every_lot(family.size)
            every = set(range(family.size))
            for lot, row in itertools.product(lots[::2], lots[::3]):
                pair = (sorted(set(row) & set(lot)), sorted(set(row) - set(lot)))
                at = At(family, lot)
                rank = at.rank_of(sorted(every - set(row)))
                self.assertEqual(met(family, pair), len(row) - at.rank + rank)

    def test_reach_of(self):
        for family in small_families():
            table = true_table(family)
            for pair in true_pairs(family.size):
                asked = [list(pair[0])[::-1], pair[1]]
                self.assert_same(reach_of(family.size, table, asked), table[pair] - len(pair[1]))
                self.assert_same(reach_of(family.size, table, Pair(*pair)), table[pair] - len(pair[1]))

    def test_reach_of_does_not_look_at_the_rules(self):
        table = {pair: 10 ** 30 for pair in true_pairs(2)}
        self.assert_same(reach_of(2, table, ((1,), (0,))), 10 ** 30 - 1)


class ErrorsTest(Case):
    def test_the_size_comes_first(self):
        for size in (0, -1, 11, True, None, "3"):
            self.assert_error(BadNumber("size"), all_pairs, size)
            self.assert_error(BadNumber("size"), reach_of, size, None, None)
            for function in (broken_met, family_of_met):
                self.assert_error(BadNumber("size"), function, size, None)
        for size in (7, 10):
            self.assert_error(TooMany("things"), all_pairs, size)
            self.assert_error(TooMany("things"), reach_of, size, None, None)
            for function in (broken_met, family_of_met):
                self.assert_error(TooMany("things"), function, size, None)
            self.assert_error(TooMany("things"), met_table, Family.of(size, ()))

    def test_wrong_tables(self):
        right = met_table(Family.of(2, ()))
        for table, place in (
            (None, -1), ([], -1), (list(right.items()), -1), ({}, 0), ({**right, 0: 0}, 0),
            ({**right, ((), (2,)): 0}, 0), ({**right, ((), ()): None}, 0), ({**right, ((1,), ()): True}, 0),
            ({**right, ((1,), ()): "1"}, 0), ({key: right[key] for key in list(right)[1:]}, 0),
            ({**{key: right[key] for key in list(right)[1:]}, ((1, 0), ()): 0}, 0),
            (met_table(Family.of(1, ())), 0), (met_table(Family.of(3, ())), 0),
        ):
            for function in (broken_met, family_of_met):
                self.assert_error(BadTable(place), function, 2, table)
            self.assert_error(BadTable(place), reach_of, 2, table, None)

    def test_the_pair_comes_after_the_table(self):
        table = {pair: -7 for pair in true_pairs(2)}
        for pair, error in (
            (None, BadPair(-1)), (((2,), None), BadLot(0)), (((0,), None), BadLot(-1)),
            (((0, 1), (1,)), BadPair(1)), (Pair((0,), (5,)), BadLot(0)),
        ):
            self.assert_error(error, reach_of, 2, table, pair)

    def test_point_1_answers_are_new_and_arguments_stay(self):
        family = Family.of(2, (), (0, 1))
        first = all_pairs(2)
        first.clear()
        self.assertEqual(len(all_pairs(2)), 9)
        self.assert_new(met_table, family)
        table = met_table(family)
        kept = dict(table)
        for function in (broken_met, family_of_met):
            function(2, table)
        reach_of(2, table, ((), ()))
        self.assertEqual(list(table.items()), list(kept.items()))
