"""The names of the interface, where they are defined, and how many arguments they take."""

import importlib
import inspect
import pathlib
import pkgutil
import unittest

import turnlots
from tests.helpers import Case, chosen_families, every_lot, small_families
from turnlots.away import within
from turnlots.breaks import is_gated
from turnlots.counts import added, depth_list, multiplied
from turnlots.errors import TooMany
from turnlots.even import Web
from turnlots.families import Family
from turnlots.glue import Glue
from turnlots.neighbours import are_neighbours
from turnlots.nets import net_family
from turnlots.pieces import Piece
from turnlots.reaches import all_pairs, met_table
from turnlots.stacks import unstacked
from turnlots.stretches import worlds
from turnlots.trees import Tree
from turnlots.trials import Trial
from turnlots.desks import Desk
from turnlots.wishes import Wish

# name/number of the arguments that are passed by position, "+" for a star, "?" for one that may be left out
FUNCTIONS = {
    "checks": "is_int/1 lot_of/2 check_thing/2 check_number/3 pair_of/2",
    "lots": "apart/3 both/3 less/3 either/3 exchanged/3 gap/3 is_between/4 box_lots/3 all_lots/1",
    "texts": "family_text/1 family_from/1",
    "gates": "nearest/2 gate/3 least_lots/2 can_step/3 steps_toward/3",
    "breaks": "partners/4 find_break/1 is_gated/1 needs_gated/1 gateless/1 unequal/1 alone_far/1 near_break/1 "
              "break_sort/4 outside_neighbours/2",
    "depths": "depth_of/2 lowers/2 raises/2 level_lots/2 deepest/1",
    "bases": "same_at/3 contracted/2",
    "labels": "labels_of/1 family_of_labels/2",
    "peaks": "is_peak/2 peaks/1 peak_above/2 peak_lots/2",
    "rules": "depth_table/1 broken_rule/2 is_depth/2 family_of_depths/2 lessened/2",
    "met": "signed_pair/2 met/2 reach/2 met_lots/2 lot_met/2 is_kept/2 keeper/2",
    "reaches": "all_pairs/1 met_table/1 broken_met/2 family_of_met/2 reach_of/3",
    "kept": "least_refused/1 forced/2 free_after/2",
    "small": "out_of/2 in_of/2 forget/2 small_table/1:inside,out forget_all/2 renumbered/2 grown/2",
    "counts": "depth_list/1 total/1 shortfall/2 short_table/1 added/2 multiplied/2 pushed/1",
    "neighbours": "clash/2 are_neighbours/2",
    "stacks": "stacked/3 unstacked/2",
    "away": "within/2 just_at/2",
    "wishes": "wish_of/2 worth/3",
    "book": "best_value/2 best_lots/2 best_family/2 book/2 book_steps/2 is_best/3 bettering/3 bookless/1",
    "critical": "critical/3 enters/3 reasons/3 unreasoned/1",
    "edges": "far_best/1 stuck/1 two_best_wish/3",
    "four": "four_bests/4 crossed/4",
    "stretches": "world_high/1:high own_world/2 worlds/1 is_safe/3 is_possible/3 safe_lots/2 ends/3 side_ends/4",
    "bonds": "bond_lots/3:sort are_rivals/3 are_mates/3 are_bonded/3 bonds/1 rivals_of/2 mates_of/2 showing_wish/4",
    "partings": "parted_by/2 finest/1 chains/1 hangs_together/1 needs_whole/1 split_by/2 wedge/2",
    "full": "hole/1 is_full/1 filled/1 reach_gap/1",
    "sides": "wrong_bond/2 is_right/2 right_side/1 right_sides/1 odd_ring/1 turned_full/1",
    "effects": "moves/3 crossing/3 trail/5 worlds_tell/2 wrong_world/2",
    "even": "unlike_parity/1 is_even/1 needs_even/1 web_at/2",
    "pairing": "pairings/2 pairing_count/2 pairs_up/2 greatest_pairing/2 apart_pairing/3 both_partner/4",
    "fours": "lone_four/1 far_alone/1 base_break/1",
    "onelot": "parts_at/2 is_turned_matroid/1 turning_at/2 turned_sizes/2 told_by_web/1 fullest_at/2 step_web/4",
    "skews": "pfaffian/2 skew_family/2 twin_at/2",
    "bothways": "one_way/1 works_both_ways/1 needs_both/1 both_partners/4 pairs_and_single/3 lone_three/1 "
                "lone_four_by/1 far_by/1 fewest_steps/3",
    "lifts": "lift/1 drop_last/1 parity_lots/2 parity_split/1",
    "merges": "merge/3 join/2 glue_over/3",
    "shadows": "matroid_above/1 cut_to/3 is_one_size/1 size_range/1",
    "glue": "cut_off/2 put_back/3",
    "cuts": "is_glued/2 uneven_lot/2 far_cut/2 mixed_lot/2 glued_lots/1 strong_lots/1 crosses/3",
    "pieces": "piece_of/2",
    "trees": "",
    "across": "near/2 glue_depths/4 glue_bonds/1 glue_critical/3 tree_sorts/1",
    "nets": "net_family/1 missed/2 odd_parts/2 reached_from/2 net_glued/2 is_net_at/2 net_at/1",
    "asked": "find_lot/2 find_best/2 find_depth/3 told_apart/2",
    "desks": "",
    "trials": "tried/2",
    "listings": "line_of/1 listing/1 table_text/1",
}
CLASSES = {
    "families.Family/2": "of/1+ everything/1 sized/3 count_of/1 fixed_in/0 fixed_out/0 loose/0 has/1 depth/1 contrary/0 "
                         "__len__/0 __iter__/0 __contains__/1 __eq__/1 __xor__/1 __add__/1 __mul__/1",
    "bases.At/2": "bases/0 circuits/0 loops/0 coloops/0 rank_of/1 is_independent/1 spans/1 alike/0 lumps/0 "
                  "__len__/0 __contains__/1 __eq__/1",
    "met.Pair/2": "full/2 turned/1 without/1 with_wanted/1 with_unwanted/1 __len__/0 __invert__/0 __and__/1 __or__/1 "
                  "__contains__/1 __eq__/1",
    "met.Meter/1": "__call__/1",
    "wishes.Wish/0+": "named/1+ worth_of/1 times/1 put/2 turned/1 greatest __len__/0 __iter__/0 __getitem__/1 __eq__/1 "
                      "__add__/1 __sub__/1 __neg__/0",
    "critical.Critical/2": "__call__/1",
    "stretches.Stretches/1": "unseen/0 settled __len__/0 __iter__/0",
    "even.Web/2": "of_rows/1 near_to/1 without_links/1 web_parts/0 sides/0 odd_ring_in/0 even_ring_in/0 __len__/0 "
                  "__iter__/0 __contains__/1 __eq__/1",
    "glue.Glue/4": "left_size right_size left_thing/1 right_thing/1 is_on_left/1 __len__/0 __eq__/1",
    "pieces.Piece/2": "sort_word/0 told/0 joints/0",
    "pieces.Parity/2": "sort_word/0 is_odd/0 told/0",
    "pieces.OneAway/2": "sort_word/0 centre/0 told/0",
    "pieces.Firm/2": "sort_word/0 told/0",
    "trees.Tree/1": "link_lot/1 side_of/2 glued/0 count_glued/0 back_family/0? counts/0",
    "asked.Asker/1": "asked ask/1 ask_inside/1",
    "desks.Desk/1": "family_now wish_now many turn/1 hold/1 leave/1 drop/1 merge_two/2 join_with/1 glue_in/3 grow/1 "
                    "widen/0 want/1 back/0 deeds/0 best/0 criticals/0 part_lots/0 report/0",
    "trials.Trial/1": "try_all/1 __enter__/0 __exit__/3",
}
POSITIONAL = (inspect.Parameter.POSITIONAL_ONLY, inspect.Parameter.POSITIONAL_OR_KEYWORD)


def found_in(path):
    module, name = path.split(".")
    return getattr(importlib.import_module(f"turnlots.{module}"), name)


def shape_of(call):
    """What stands behind the slash in the tables above, for a bound or plain callable."""
    rows = inspect.signature(call).parameters.values()
    needed = [row for row in rows if row.kind in POSITIONAL and row.default is row.empty]
    may = any(row.kind in POSITIONAL and row.default is not row.empty for row in rows)
    star = any(row.kind in (row.VAR_POSITIONAL, row.VAR_KEYWORD) for row in rows)
    by_name = ",".join(row.name for row in rows if row.kind == row.KEYWORD_ONLY)
    return f"{len(needed)}{'+' * star}{'?' * may}{':' * bool(by_name)}{by_name}"


class InterfaceTest(unittest.TestCase):
    def test_each_function_stands_in_its_file(self):
        for module, words in FUNCTIONS.items():
            for word in words.split():
                name, shape = word.split("/")
                call = found_in(f"{module}.{name}")
                self.assertTrue(inspect.isfunction(call), word)
                self.assertEqual(call.__module__, f"turnlots.{module}")
                self.assertEqual(shape_of(call), shape, word)

    def test_each_class_stands_in_its_file_with_methods_of_its_own(self):
        for path, words in CLASSES.items():
            name, shape = path.split("/")
            cls = found_in(name)
            self.assertTrue(inspect.isclass(cls))
            self.assertEqual(cls.__module__, "turnlots." + name.split(".")[0])
            self.assertEqual(shape_of(cls), shape, path)
            for word in words.split():
                method, _, shape = word.partition("/")
                own = vars(cls)[method]
                if not shape:
                    self.assertIsInstance(own, property)
                    continue
                plain = inspect.isfunction(own)
                found = shape_of(getattr(cls, method))
                # a plain method takes its object first
                self.assertEqual(found.replace(found[0], str(int(found[0]) - plain), 1), shape, word)

    def test_class_and_static_methods_are_called_off_the_class(self):
        for path in ("families.Family.of", "families.Family.everything", "families.Family.sized", "wishes.Wish.named"):
            name, method = path.rsplit(".", 1)
            self.assertIsInstance(vars(found_in(name))[method], classmethod)
        for path in ("families.Family.count_of", "met.Pair.full", "even.Web.of_rows"):
            name, method = path.rsplit(".", 1)
            self.assertIsInstance(vars(found_in(name))[method], staticmethod)

    def test_attributes_are_set_on_each_object(self):
        family = Family.of(3, (), (0, 1), (0, 2), (1, 2))
        for made, names in (
            (family, "size lots"), (Web(3, ()), "size links"), (Wish(1), "numbers"), (Glue(family, 0, family, 1), "left left_link right right_link family"),
            (Piece(family, (0, 1, 2)), "family names"), (Tree(family), "family pieces many_links"), (Trial(Desk(family)), "desk mark"),
        ):
            for name in names.split():
                self.assertIn(name, vars(made))

    def test_the_package_is_one_folder_of_files(self):
        folder = pathlib.Path(turnlots.__file__).parent
        names = {info.name for info in pkgutil.iter_modules([str(folder)])}
        self.assertEqual(names - set(FUNCTIONS) - {"families", "errors", "masks"}, set())
        self.assertTrue(set(FUNCTIONS) <= names)


class WholeProgramTest(Case):
    """What the document says that all stages have in common, on one row of families."""

    def test_what_the_program_tells(self):
        for family in [*small_families(), *chosen_families((4, 5), 4)]:
            if is_gated(family):
                self.assertTrue(is_gated(within(family, 1)))
                for x in family.loose() if family.size > 1 else ():
                    out, both = unstacked(family, x)
                    self.assertTrue(are_neighbours(out, both))
                    self.assertEqual(added(depth_list(out), depth_list(both)), depth_list(family))

    def test_sizes_of_families_and_tables(self):
        self.assertEqual(len(Family.everything(10)), 1024)
        self.assertEqual(len(net_family(Web(10, ()))), 1)
        self.assertEqual([len(all_pairs(6)), len(met_table(Family.of(6, ())))], [729, 729])
        self.assert_error(TooMany("things"), all_pairs, 7)
        self.assert_error(TooMany("things"), met_table, Family.of(7, ()))

    def test_sizes_of_worlds_and_numbers(self):
        self.assertEqual(len(list(worlds([(1, 3000)]))), 3000)
        self.assert_error(TooMany("worlds"), list_worlds, [(1, 3001)])
        self.assert_error(TooMany("worlds"), list_worlds, [(0, 1)] * 10 + [(0, 2)])
        self.assertEqual(len(list(worlds([(0, 1)] * 10 + [(5, 5)]))), 1024)
        huge = 10 ** 30
        self.assertEqual([wish.numbers for wish in worlds([(huge, huge + 1), (-huge, -huge)])], [(huge, -huge), (huge + 1, -huge)])
        long = 10 ** 59
        self.assert_same(multiplied((long, -long), (1, 1)), (long, 0, -long))

    def test_equal_arguments_give_equal_answers(self):
        for family in chosen_families((4,), 3):
            same = Family(4, [list(lot)[::-1] for lot in family.lots[::-1]])
            self.assertEqual(family, same)
            for lot in every_lot(4):
                self.assertEqual(family.depth(lot), same.depth(list(lot)[::-1]))


def list_worlds(rows):
    return list(worlds(rows))
