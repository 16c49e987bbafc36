import PyProof.Rows.All
import Wide.All
import OpenK.AllK
import Wide.FinOn
import KE.KStateDown
import HandS.Base
import HandS.Call
import HandS.Ends
import HandS.More
import HandS.Words
import HandS.WordsExc
import HandS.Defaults
import HandS.Head0
import HandS.Head1
import HandS.Head2
import HandS.HeadEnd
import HandS.HeadHook1
import HandS.HeadHook2
import PyProof.Rows.BitMore
import KE.BitLaws
import KE.KBits
import HandS.WideBits
import PyProof.EqAt
import PyProof.EqKinds
import PyProof.TupleCall
import HandS.Set
import HandS.ForMost
import HandS.Strs
import HandS.SetFor
import HandS.SortOrd
import KE.KSortTup
import HandS.TupSets
import HandS.Dict
import HandS.Iter
import KE.GoesComp
import KE.GoesMore
import HandS.Codes
import HandS.SortInts
import HandS.IsInst
import HandS.Evl
import KE.GoesEnum
import HandS.Conv
import HandS.Deep
import HandS.DictComp
import PyProof.SeqIndex
import HandS.Sort
import HandS.RevRange
import KE.GoesRev
import HandS.TupAny
import HandS.MakeKwOnly
import HandS.WordsList
import HandS.WordsDict
import HandS.Walk
import PySem.Challenge.RW_turnlots_k56_lumps_peaks_and_bonds
set_option Elab.async false
set_option linter.all false
set_option maxRecDepth 100000
set_option maxHeartbeats 0
section
namespace Hd
open PySem PySem.Spec PyProof.Rows L2
def top (i : Nat) : Stmt := PySem.Challenge.pw_turnlots_k56_lumps_peaks_and_bonds.main.body.getD i (.Pass ⟨0, 0, 0, 0⟩)

def loose0 : List PySem.Str := ["_wall", "LotsError", "BadLot", "BadFamily", "BadThing", "BadSort", "NotInside", "NotGated", "OtherSize", "TooMany", "is_int", "is_list", "wrong_entry", "is_lot", "lot_of", "is_thing", "check_thing", "check_two", "mask_of", "lot_from", "lots_from", "ordered_masks", "mask_sums", "thing_counts", "family_masks", "inside_row", "depth_row", "check_inside", "nearest_masks", "partners"]
def loose1 : List PySem.Str := ["lowering_mask", "ungated_rows", "first_break", "find_break", "needs_gated", "changes", "lowers", "bases_at", "independent_row", "circuit_masks", "put_together", "At", "check_family_size", "checked_rows", "Family", "first_raising", "peaks", "is_bonded", "bond_sort", "bond_lots", "are_rivals", "are_mates", "are_bonded", "bonds", "_law_draws", "_law_take", "_law_bits", "_law_lot", "_law_lots", "_law_inside"]
def loose2 : List PySem.Str := ["_law_listed", "_law_sized", "_law_web", "_law_paired", "_law_turned", "_law_joined", "_law_breaks", "_law_made", "_law_family", "_law_gated", "_law_depths", "_law_bonds", "_law_marked", "_law_lumped", "_law_common", "_law_outside", "_law_twelve", "_law_checked"]
def loose : List PySem.Str := loose0 ++ loose1 ++ loose2
def d0 : He.DefD := ⟨("is_int", none), "is_int", "is_int", defArgs (top 12), defBody (top 12), defScope (top 12), [], []⟩
def d1 : He.DefD := ⟨("is_list", none), "is_list", "is_list", defArgs (top 13), defBody (top 13), defScope (top 13), [], []⟩
def d2 : He.DefD := ⟨("wrong_entry", none), "wrong_entry", "wrong_entry", defArgs (top 14), defBody (top 14), defScope (top 14), [], []⟩
def d3 : He.DefD := ⟨("is_lot", none), "is_lot", "is_lot", defArgs (top 15), defBody (top 15), defScope (top 15), [], []⟩
def d4 : He.DefD := ⟨("lot_of", none), "lot_of", "lot_of", defArgs (top 16), defBody (top 16), defScope (top 16), [], []⟩
def d5 : He.DefD := ⟨("is_thing", none), "is_thing", "is_thing", defArgs (top 17), defBody (top 17), defScope (top 17), [], []⟩
def d6 : He.DefD := ⟨("check_thing", none), "check_thing", "check_thing", defArgs (top 18), defBody (top 18), defScope (top 18), [], []⟩
def d7 : He.DefD := ⟨("check_two", none), "check_two", "check_two", defArgs (top 19), defBody (top 19), defScope (top 19), [], []⟩
def d8 : He.DefD := ⟨("mask_of", none), "mask_of", "mask_of", defArgs (top 21), defBody (top 21), defScope (top 21), [], []⟩
def d9 : He.DefD := ⟨("lot_from", none), "lot_from", "lot_from", defArgs (top 22), defBody (top 22), defScope (top 22), [], []⟩
def d10 : He.DefD := ⟨("lots_from", none), "lots_from", "lots_from", defArgs (top 23), defBody (top 23), defScope (top 23), [], []⟩
def d11 : He.DefD := ⟨("ordered_masks", none), "ordered_masks", "ordered_masks", defArgs (top 24), defBody (top 24), defScope (top 24), [], []⟩
def d12 : He.DefD := ⟨("mask_sums", none), "mask_sums", "mask_sums", defArgs (top 25), defBody (top 25), defScope (top 25), [], []⟩
def d13 : He.DefD := ⟨("thing_counts", none), "thing_counts", "thing_counts", defArgs (top 26), defBody (top 26), defScope (top 26), [], []⟩
def d14 : He.DefD := ⟨("family_masks", none), "family_masks", "family_masks", defArgs (top 27), defBody (top 27), defScope (top 27), [], []⟩
def d15 : He.DefD := ⟨("inside_row", none), "inside_row", "inside_row", defArgs (top 28), defBody (top 28), defScope (top 28), [], []⟩
def d16 : He.DefD := ⟨("depth_row", none), "depth_row", "depth_row", defArgs (top 29), defBody (top 29), defScope (top 29), [], []⟩
def d17 : He.DefD := ⟨("check_inside", none), "check_inside", "check_inside", defArgs (top 31), defBody (top 31), defScope (top 31), [], []⟩
def d18 : He.DefD := ⟨("nearest_masks", none), "nearest_masks", "nearest_masks", defArgs (top 32), defBody (top 32), defScope (top 32), [], []⟩
def d19 : He.DefD := ⟨("partners", none), "partners", "partners", defArgs (top 34), defBody (top 34), defScope (top 34), [], []⟩
def d20 : He.DefD := ⟨("lowering_mask", none), "lowering_mask", "lowering_mask", defArgs (top 35), defBody (top 35), defScope (top 35), [], []⟩
def d21 : He.DefD := ⟨("ungated_rows", none), "ungated_rows", "ungated_rows", defArgs (top 36), defBody (top 36), defScope (top 36), [], []⟩
def d22 : He.DefD := ⟨("first_break", none), "first_break", "first_break", defArgs (top 37), defBody (top 37), defScope (top 37), [], []⟩
def d23 : He.DefD := ⟨("find_break", none), "find_break", "find_break", defArgs (top 38), defBody (top 38), defScope (top 38), [], []⟩
def d24 : He.DefD := ⟨("needs_gated", none), "needs_gated", "needs_gated", defArgs (top 39), defBody (top 39), defScope (top 39), [], []⟩
def d25 : He.DefD := ⟨("changes", none), "changes", "changes", defArgs (top 41), defBody (top 41), defScope (top 41), [], []⟩
def d26 : He.DefD := ⟨("lowers", none), "lowers", "lowers", defArgs (top 42), defBody (top 42), defScope (top 42), [], []⟩
def d27 : He.DefD := ⟨("bases_at", none), "bases_at", "bases_at", defArgs (top 44), defBody (top 44), defScope (top 44), [], []⟩
def d28 : He.DefD := ⟨("independent_row", none), "independent_row", "independent_row", defArgs (top 45), defBody (top 45), defScope (top 45), [], []⟩
def d29 : He.DefD := ⟨("circuit_masks", none), "circuit_masks", "circuit_masks", defArgs (top 46), defBody (top 46), defScope (top 46), [], []⟩
def d30 : He.DefD := ⟨("put_together", none), "put_together", "put_together", defArgs (top 47), defBody (top 47), defScope (top 47), [], []⟩
def d31 : He.DefD := ⟨("check_family_size", none), "check_family_size", "check_family_size", defArgs (top 50), defBody (top 50), defScope (top 50), [], []⟩
def d32 : He.DefD := ⟨("checked_rows", none), "checked_rows", "checked_rows", defArgs (top 51), defBody (top 51), defScope (top 51), [], []⟩
def d33 : He.DefD := ⟨("first_raising", none), "first_raising", "first_raising", defArgs (top 54), defBody (top 54), defScope (top 54), [], []⟩
def d34 : He.DefD := ⟨("peaks", none), "peaks", "peaks", defArgs (top 55), defBody (top 55), defScope (top 55), [], []⟩
def d35 : He.DefD := ⟨("is_bonded", none), "is_bonded", "is_bonded", defArgs (top 57), defBody (top 57), defScope (top 57), [], []⟩
def d36 : He.DefD := ⟨("bond_sort", none), "bond_sort", "bond_sort", defArgs (top 58), defBody (top 58), defScope (top 58), [], []⟩
def d37 : He.DefD := ⟨("bond_lots", none), "bond_lots", "bond_lots", defArgs (top 59), defBody (top 59), defScope (top 59), [], [("sort", .str "both")]⟩
def d38 : He.DefD := ⟨("are_rivals", none), "are_rivals", "are_rivals", defArgs (top 60), defBody (top 60), defScope (top 60), [], []⟩
def d39 : He.DefD := ⟨("are_mates", none), "are_mates", "are_mates", defArgs (top 61), defBody (top 61), defScope (top 61), [], []⟩
def d40 : He.DefD := ⟨("are_bonded", none), "are_bonded", "are_bonded", defArgs (top 62), defBody (top 62), defScope (top 62), [], []⟩
def d41 : He.DefD := ⟨("bonds", none), "bonds", "bonds", defArgs (top 63), defBody (top 63), defScope (top 63), [], []⟩
def d42 : He.DefD := ⟨("_law_draws", none), "_law_draws", "_law_draws", defArgs (top 65), defBody (top 65), defScope (top 65), [], []⟩
def d43 : He.DefD := ⟨("_law_take", none), "_law_take", "_law_take", defArgs (top 66), defBody (top 66), defScope (top 66), [], []⟩
def d44 : He.DefD := ⟨("_law_bits", none), "_law_bits", "_law_bits", defArgs (top 67), defBody (top 67), defScope (top 67), [], []⟩
def d45 : He.DefD := ⟨("_law_lot", none), "_law_lot", "_law_lot", defArgs (top 68), defBody (top 68), defScope (top 68), [], []⟩
def d46 : He.DefD := ⟨("_law_lots", none), "_law_lots", "_law_lots", defArgs (top 69), defBody (top 69), defScope (top 69), [], []⟩
def d47 : He.DefD := ⟨("_law_inside", none), "_law_inside", "_law_inside", defArgs (top 70), defBody (top 70), defScope (top 70), [], []⟩
def d48 : He.DefD := ⟨("_law_listed", none), "_law_listed", "_law_listed", defArgs (top 71), defBody (top 71), defScope (top 71), [], []⟩
def d49 : He.DefD := ⟨("_law_sized", none), "_law_sized", "_law_sized", defArgs (top 72), defBody (top 72), defScope (top 72), [], []⟩
def d50 : He.DefD := ⟨("_law_web", none), "_law_web", "_law_web", defArgs (top 73), defBody (top 73), defScope (top 73), [], []⟩
def d51 : He.DefD := ⟨("_law_paired", none), "_law_paired", "_law_paired", defArgs (top 74), defBody (top 74), defScope (top 74), [], []⟩
def d52 : He.DefD := ⟨("_law_turned", none), "_law_turned", "_law_turned", defArgs (top 75), defBody (top 75), defScope (top 75), [], []⟩
def d53 : He.DefD := ⟨("_law_joined", none), "_law_joined", "_law_joined", defArgs (top 76), defBody (top 76), defScope (top 76), [], []⟩
def d54 : He.DefD := ⟨("_law_breaks", none), "_law_breaks", "_law_breaks", defArgs (top 77), defBody (top 77), defScope (top 77), [], []⟩
def d55 : He.DefD := ⟨("_law_made", none), "_law_made", "_law_made", defArgs (top 78), defBody (top 78), defScope (top 78), [], []⟩
def d56 : He.DefD := ⟨("_law_family", none), "_law_family", "_law_family", defArgs (top 79), defBody (top 79), defScope (top 79), [], []⟩
def d57 : He.DefD := ⟨("_law_gated", none), "_law_gated", "_law_gated", defArgs (top 80), defBody (top 80), defScope (top 80), [], []⟩
def d58 : He.DefD := ⟨("_law_depths", none), "_law_depths", "_law_depths", defArgs (top 81), defBody (top 81), defScope (top 81), [], []⟩
def d59 : He.DefD := ⟨("_law_bonds", none), "_law_bonds", "_law_bonds", defArgs (top 82), defBody (top 82), defScope (top 82), [], []⟩
def d60 : He.DefD := ⟨("_law_marked", none), "_law_marked", "_law_marked", defArgs (top 83), defBody (top 83), defScope (top 83), [], []⟩
def d61 : He.DefD := ⟨("_law_lumped", none), "_law_lumped", "_law_lumped", defArgs (top 84), defBody (top 84), defScope (top 84), [], []⟩
def d62 : He.DefD := ⟨("_law_common", none), "_law_common", "_law_common", defArgs (top 85), defBody (top 85), defScope (top 85), [], []⟩
def d63 : He.DefD := ⟨("_law_outside", none), "_law_outside", "_law_outside", defArgs (top 86), defBody (top 86), defScope (top 86), [], []⟩
def d64 : He.DefD := ⟨("_law_twelve", none), "_law_twelve", "_law_twelve", defArgs (top 87), defBody (top 87), defScope (top 87), [], []⟩
def d65 : He.DefD := ⟨("_law_checked", none), "_law_checked", "_law_checked", defArgs (top 88), defBody (top 88), defScope (top 88), [], []⟩
def d66 : He.DefD := ⟨("law", none), "law", "law", defArgs (top 89), defBody (top 89), defScope (top 89), [], []⟩
def d67 : He.DefD := ⟨("At", some "__init__"), "__init__", "At.__init__", defArgs (inClass (top 48) 0), defBody (inClass (top 48) 0), defScope (inClass (top 48) 0), [], []⟩
def d68 : He.DefD := ⟨("At", some "bases"), "bases", "At.bases", defArgs (inClass (top 48) 4), defBody (inClass (top 48) 4), defScope (inClass (top 48) 4), [], []⟩
def d69 : He.DefD := ⟨("At", some "circuits"), "circuits", "At.circuits", defArgs (inClass (top 48) 5), defBody (inClass (top 48) 5), defScope (inClass (top 48) 5), [], []⟩
def d70 : He.DefD := ⟨("At", some "loops"), "loops", "At.loops", defArgs (inClass (top 48) 6), defBody (inClass (top 48) 6), defScope (inClass (top 48) 6), [], []⟩
def d71 : He.DefD := ⟨("At", some "coloops"), "coloops", "At.coloops", defArgs (inClass (top 48) 7), defBody (inClass (top 48) 7), defScope (inClass (top 48) 7), [], []⟩
def d72 : He.DefD := ⟨("At", some "lumps"), "lumps", "At.lumps", defArgs (inClass (top 48) 12), defBody (inClass (top 48) 12), defScope (inClass (top 48) 12), [], []⟩
def d73 : He.DefD := ⟨("Family", some "__init__"), "__init__", "Family.__init__", defArgs (inClass (top 52) 0), defBody (inClass (top 52) 0), defScope (inClass (top 52) 0), [], []⟩
def d74 : He.DefD := ⟨("Family", some "has"), "has", "Family.has", defArgs (inClass (top 52) 15), defBody (inClass (top 52) 15), defScope (inClass (top 52) 15), [], []⟩
def d75 : He.DefD := ⟨("Family", some "depth"), "depth", "Family.depth", defArgs (inClass (top 52) 16), defBody (inClass (top 52) 16), defScope (inClass (top 52) 16), [], []⟩
def fn : List He.DefD := [d0, d1, d2, d3, d4, d5, d6, d7, d8, d9, d10, d11, d12, d13, d14, d15, d16, d17, d18, d19, d20, d21, d22, d23, d24, d25, d26, d27, d28, d29, d30, d31, d32, d33, d34, d35, d36, d37, d38, d39, d40, d41, d42, d43, d44, d45, d46, d47, d48, d49, d50, d51, d52, d53, d54, d55, d56, d57, d58, d59, d60, d61, d62, d63, d64, d65, d66, d67, d68, d69, d70, d71, d72, d73, d74, d75]
def fa : List He.Fa := [.glo "is_int", .glo "is_list", .glo "wrong_entry", .glo "is_lot", .glo "lot_of", .glo "is_thing", .glo "check_thing", .glo "check_two", .glo "mask_of", .glo "lot_from", .glo "lots_from", .glo "ordered_masks", .glo "mask_sums", .glo "thing_counts", .glo "family_masks", .glo "inside_row", .glo "depth_row", .glo "check_inside", .glo "nearest_masks", .glo "partners", .glo "lowering_mask", .glo "ungated_rows", .glo "first_break", .glo "find_break", .glo "needs_gated", .glo "changes", .glo "lowers", .glo "bases_at", .glo "independent_row", .glo "circuit_masks", .glo "put_together", .glo "check_family_size", .glo "checked_rows", .glo "first_raising", .glo "peaks", .glo "is_bonded", .glo "bond_sort", .glo "bond_lots", .glo "are_rivals", .glo "are_mates", .glo "are_bonded", .glo "bonds", .glo "_law_draws", .glo "_law_take", .glo "_law_bits", .glo "_law_lot", .glo "_law_lots", .glo "_law_inside", .glo "_law_listed", .glo "_law_sized", .glo "_law_web", .glo "_law_paired", .glo "_law_turned", .glo "_law_joined", .glo "_law_breaks", .glo "_law_made", .glo "_law_family", .glo "_law_gated", .glo "_law_depths", .glo "_law_bonds", .glo "_law_marked", .glo "_law_lumped", .glo "_law_common", .glo "_law_outside", .glo "_law_twelve", .glo "_law_checked", .glo "law", .glo "At", .cls "At", .mkr "At", .meth "At" "bases", .meth "At" "circuits", .meth "At" "loops", .meth "At" "coloops", .meth "At" "lumps", .noat "At" "_bases", .noat "At" "family", .noat "At" "lot", .noat "At" "rank", .glo "Family", .cls "Family", .mkr "Family", .meth "Family" "has", .meth "Family" "depth", .noat "Family" "_inside", .noat "Family" "lots", .noat "Family" "size", .free "len", .free "min", .free "max", .free "int", .free "range", .free "sorted", .free "tuple", .free "list", .free "set", .free "isinstance", .free "bool", .free "enumerate", .free "abs", .free "any", .free "all", .free "sum", .free "reversed"]
abbrev R : PySem.W.OpenRow := PySem.W.OpenLaw.row PySem.Challenge.rw_turnlots_k56_lumps_peaks_and_bonds
/-- what is looked at: a def's code and defaults, all that another object names; never the module itself again -/
def refsE (o : Obj) : List Addr := match o.data with
  | .func fd => He.refV fd.code ++ (He.refV fd.defaults ++ He.refV fd.kwdefaults)
  | _ => (He.refsD o).filter fun a => !(a == mainGlobals)
def growE (g : Addr → Option Obj) (as : List Addr) : List Addr := as.flatMap fun a => match g a with
  | some o => refsE o
  | none => []
def asE (g : Addr → Option Obj) : Nat → List Addr
  | 0 => [mainGlobals]
  | n + 1 => growE g (asE g n)
def allE (g : Addr → Option Obj) : List Addr := match asE g 1 with
  | a1 => match growE g a1 with
    | a2 => match growE g a2 with
      | a3 => match growE g a3 with
        | a4 => mainGlobals :: (a1 ++ (a2 ++ (a3 ++ a4)))
def obsE (g : Addr → Option Obj) : He.AlD := He.obsD fa fn (He.frG g (allE g))
def hk : PySem.W.Hook where
  α := He.AlD
  val := fun _ => He.valD fn
  obs := fun s => obsE s.heap.get?
  says := fun _ h => ∃ frag : PySem.W.Frag, frag.In h ∧ He.SaysD fa fn frag
  of := fun _ _ e => ⟨_, He.frG_in, e⟩
  keeps := fun _ _ _ says old => says.elim fun frag z => ⟨frag, z.1.keeps old, z.2⟩
def ob (s : PySem.W.SharedT) : He.AlD := obsE (HandSHeadRun.getT s)
theorem ob_eq (s : PySem.W.SharedT) : ob s = hk.obs s.abs := by
  have e : HandSHeadRun.getT s = s.abs.heap.get? := funext (HandSHeadRun.getT_eq s)
  show obsE (HandSHeadRun.getT s) = obsE s.abs.heap.get?
  rw [e]
theorem run (w : World) : HandSHeadRun.RunEq R (PySem.W.view R.prog [89]) hk ob 20000 loose w := by
  intro os
  kernel_rfl
end Hd
end
section
namespace L3
open PySem PySem.Spec PyProof.Rows

/-! ### masks -/
theorem xor_sum (n : Nat) : ∀ m, (n ^^^ m) + 2 * (n &&& m) = n + m := by
  induction n using Nat.strongRecOn
  with
  | _ n ih =>
    intro m
    by_cases h : n = 0
    · subst h; simp
    · have h1 := ih (n / 2) (by omega) (m / 2)
      have a1 : (n ^^^ m) / 2 = n / 2 ^^^ m / 2 := Nat.xor_div_two
      have a2 : (n &&& m) / 2 = n / 2 &&& m / 2 := Nat.and_div_two
      have hn : n % 2 = 0 ∨ n % 2 = 1 := by omega
      have hm : m % 2 = 0 ∨ m % 2 = 1 := by omega
      have a3 : (n ^^^ m) % 2 = (n % 2 + m % 2) % 2 := by
        have := @Nat.xor_mod_two_pow n m 1
        simp at this
        rw [this]
        rcases hn with e | e <;> rcases hm with f | f <;> rw [e, f] <;> rfl
      have a4 : (n &&& m) % 2 = (n % 2) * (m % 2) := by
        have := @Nat.and_mod_two_pow n m 1
        simp at this
        rw [this]
        rcases hn with e | e <;> rcases hm with f | f <;> rw [e, f] <;> rfl
      rcases hn with e | e <;> rcases hm with f | f <;> rw [e, f] at a3 a4 <;> omega
theorem and_le (n m : Nat) : n &&& m ≤ n := Nat.and_le_left
theorem and_nat (n m : Nat) : Builtin.bitAnd (n : Int) (m : Int) = ((n &&& m : Nat) : Int) := by
  unfold Builtin.bitAnd
  rw [decide_eq_true (Int.natCast_nonneg n), decide_eq_true (Int.natCast_nonneg m)]
  simp
theorem or_nat (n m : Nat) : Builtin.bitOr (n : Int) (m : Int) = ((n ||| m : Nat) : Int) := by
  rw [L2.bitOr_nn (Int.natCast_nonneg n) (Int.natCast_nonneg m)]
  simp
theorem xor_nat (n m : Nat) : Builtin.bitXor (n : Int) (m : Int) = ((n ^^^ m : Nat) : Int) := by
  rw [PyProof.Rows.bitXor_and, and_nat]
  have := xor_sum n m
  omega
/-- n & ~m -/
theorem and_not (n m : Nat) : Builtin.bitAnd (n : Int) (Builtin.bitNot (m : Int)) = ((n - (n &&& m) : Nat) : Int) := by
  unfold Builtin.bitAnd
  have h : ¬ (0 : Int) ≤ Builtin.bitNot (m : Int) := by unfold Builtin.bitNot; omega
  rw [decide_eq_true (Int.natCast_nonneg n), decide_eq_false h]
  have e : (Builtin.bitNot (Builtin.bitNot (m : Int))).toNat = m := by unfold Builtin.bitNot; omega
  show (n : Int) - (((n : Int).toNat &&& (Builtin.bitNot (Builtin.bitNot (m : Int))).toNat : Nat) : Int) = _
  rw [e, Int.toNat_natCast]
  have := and_le n m
  omega
theorem shl_nat (n k : Nat) : (n : Int) * 2 ^ ((k : Int)).toNat = ((n <<< k : Nat) : Int) := by
  rw [Int.toNat_natCast, Nat.shiftLeft_eq, Int.natCast_mul, Int.natCast_pow]
  rfl
theorem shr_nat (n k : Nat) : (n : Int) / 2 ^ ((k : Int)).toNat = ((n >>> k : Nat) : Int) := by
  rw [Int.toNat_natCast, Nat.shiftRight_eq_div_pow, Int.natCast_ediv, Int.natCast_pow]
  rfl
end L3
end
section
namespace L3
open PySem PySem.Spec PyProof.Rows L2
section
variable {P : Program} {w : World} {A : Around} {E : Value → Shared → Prop} {s : Shared} {a b : Addr} {S : Int → Bool} {n : Nat}

/-- the entries of a set, as a list in any order -/
def Ents (S : Int → Bool) (n : Nat) (l : List (Int × Value)) : Prop := (∀ e ∈ l, GoodE e) ∧ (l.map keyOf).Nodup ∧ (∀ k, S k = true ↔ k ∈ l.map keyOf) ∧ l.length = n
theorem Ents.perm {l l' : List (Int × Value)} (h : Ents S n l) (p : l'.Perm l) : Ents S n l' :=
  ⟨fun e he => h.1 e (p.mem_iff.mp he), (p.map keyOf).nodup_iff.mpr h.2.1, fun k => (h.2.2.1 k).trans (p.map keyOf).mem_iff.symm, by rw [p.length_eq]; exact h.2.2.2⟩
theorem SetR.ents (R : SetR w s.heap a S n) : ∃ o es ep t, s.heap.get? a = some o ∧ o.ExactSet ∧ o.data = .set es ep t ∧ Ents S n es.toList ∧ es.size < scanBound ∧ t.fits es.size = true ∧ Ris t.place.toList ∧ (w.params.followText "set-order" = true ∨ t.led = true) := by
  obtain ⟨o, es, ep, t, there, ex, data, good, nd, mem, small, fit, many, up, lead⟩ := R
  exact ⟨o, es, ep, t, there, ex, data, ⟨good, nd, mem, by rw [Array.length_toList]; exact many⟩, small, fit, up, lead⟩

theorem ask_at {Q : _ → Shared → Prop} (h : Q ⟨P, w.params⟩ s) : wpAny (model P w) A PySem.ask Q E s := fun _ _ _ => h
theorem setWalk_at {o : Obj} {es : Array (Int × Value)} {ep : Nat} {t : SetTable} {Q : Array (Int × Value) → Shared → Prop} (ho : s.heap.get? a = some o) (hd : o.data = .set es ep t) (hf : t.fits es.size = true)
    (hl : w.params.followText "set-order" = true ∨ t.led = true) (h : ∀ (es' : Array (Int × Value)) (d : Drawn), es'.toList.Perm es.toList → Q es' { s with drawn := d }) : wpAny (model P w) A (setWalk a) Q E s := by
  have same : Q es s := h es s.drawn (List.Perm.refl _)
  unfold setWalk
  refine wpAny_bind (wpAny_setState_of ho hd hf (wpAny_bind (wpAny_byText ?_)))
  rcases hb : w.params.followText "set-order" with _ | _
  · have led : t.led = true := by rw [hb] at hl; exact hl.resolve_left (by decide)
    rw [if_neg (by decide)]
    split
    · exact wpAny_bind (drawOrder_at _ _ _ _ (Nat.le_of_eq Array.length_toList) fun ys d p => wpAny_pure (h ys.toArray d p))
    · refine wpAny_bind ?_
      show wpAny (model P w) A (if (!t.led && decide (es.size > 1)) = true then unsupported _ else pure ()) _ E s
      rw [led]
      exact wpAny_pure (wpAny_pure same)
  · rw [if_pos rfl]
    exact wpAny_bind (ask_at (wpAny_pure (h _ s.drawn (pick_perm _ es))))
theorem setsQuiet_at (sets : List Addr) {Q : Bool → Shared → Prop} (h : ∀ a ∈ sets, ∃ o es ep t, s.heap.get? a = some o ∧ o.data = .set es ep t ∧ t.fits es.size = true ∧ ∀ e ∈ es.toList, GoodE e) (hQ : Q true s) :
    wpAny (model P w) A (setsQuiet sets) Q E s := by
  unfold setsQuiet
  refine wpAny_bind (wpAny_forIn_list _ (fun rest b s' => b = (none, ()) ∧ s' = s ∧ ∀ a ∈ rest, a ∈ sets) _ ?_ ?_ _ _ ⟨rfl, rfl, fun _ q => q⟩)
  · rintro a rest b s' ⟨rfl, e, hm⟩
    subst e
    obtain ⟨o, es, ep, t, ho, hd, hf, hg⟩ := h a (hm a List.mem_cons_self)
    have key : wpAny (model P w) A (setEntries a) (fun r s2 => r = es ∧ s2 = s') E s' := by
      unfold setEntries
      exact wpAny_bind (wpAny_setState_of ho hd hf (wpAny_pure ⟨rfl, rfl⟩))
    refine wpAny_bind (wpAny_mono key (fun r s2 e => ?_) fun _ _ z => z)
    obtain ⟨rfl, rfl⟩ := e
    refine wpAny_bind (PySem.MeetsSeq2.wpAny_forIn_array _ (fun rest b s3 => b = (none, ()) ∧ s3 = s2 ∧ ∀ e ∈ rest, GoodE e) _ ?_ ?_ _ _ ⟨rfl, rfl, hg⟩)
    · rintro e rest b s3 ⟨rfl, e3, hg'⟩
      subst e3
      obtain ⟨k, tk, h1, h2⟩ := hg' e List.mem_cons_self
      obtain ⟨e1, e2⟩ := e
      dsimp only at h1
      subst h1
      dsimp only
      exact wpAny_pure ⟨rfl, rfl, fun y hy => hg' y (List.mem_cons_of_mem _ hy)⟩
    · rintro b s3 ⟨rfl, rfl, _⟩
      exact wpAny_pure ⟨rfl, rfl, fun y hy => hm y (List.mem_cons_of_mem _ hy)⟩
  · rintro b s' ⟨rfl, rfl, _⟩
    exact wpAny_pure hQ

/-- what is written into f is f's own members again, so f stays the same set -/
theorem setWalkUnseen_at {f : Addr} {others : List Addr} {m : Nat} {Sf : Int → Bool} {Q : Array (Int × Value) → Shared → Prop} (R : SetR w s.heap a S n) (Rf : SetR w s.heap f Sf m)
    (ho : ∀ b ∈ others, ∃ Sb k, SetR w s.heap b Sb k)
    (h : ∀ (es' : Array (Int × Value)) (d : Drawn) (h' : Heap), Ents S n es'.toList → Heap.SameBut f s.heap h' → SetR w h' f Sf m → Q es' { s with drawn := d, heap := h' }) :
    wpAny (model P w) A (setWalkUnseen a others (some f)) Q E s := by
  obtain ⟨o, es, ep, t, g1, _, g2, en, _, g3, _, lead⟩ := SetR.ents R
  have walk : wpAny (model P w) A (setWalk a) Q E s := setWalk_at g1 g2 g3 lead fun es' d p => h es' d s.heap (en.perm p) (Heap.SameBut.refl f s.heap) Rf
  have quiet : ∀ b ∈ a :: others, ∃ o es ep t, s.heap.get? b = some o ∧ o.data = .set es ep t ∧ t.fits es.size = true ∧ ∀ e ∈ es.toList, GoodE e := by
    intro b hb
    have : ∃ Sb k, SetR w s.heap b Sb k := (List.mem_cons.mp hb).elim (fun e => e ▸ ⟨S, n, R⟩) (ho b)
    obtain ⟨Sb, k, Rb⟩ := this
    obtain ⟨o, es, ep, t, q1, _, q2, q3, _, q4, _⟩ := SetR.ents Rb
    exact ⟨o, es, ep, t, q1, q2, q4, q3.1⟩
  unfold setWalkUnseen
  refine wpAny_bind (wpAny_setState_of g1 g2 g3 (wpAny_bind (wpAny_byText ?_)))
  dsimp only
  split
  · exact walk
  · refine wpAny_bind (setsQuiet_at _ quiet ?_)
    rw [if_neg (by decide)]
    refine wpAny_bind (wpAny_rule (tag := _) ?_)
    obtain ⟨of, ef, epf, tf, f1, fx, f2, fn, fb, f3, fr, flead⟩ := SetR.ents Rf
    refine wpAny_bind (wpAny_setState_of f1 f2 f3 ?_)
    dsimp only
    have stay : wpAny (model P w) A (pure es) Q E s := wpAny_pure (h es s.drawn s.heap en (Heap.SameBut.refl f s.heap) Rf)
    split
    · refine wpAny_bind (wpAny_storeSet_of f1 f2 (hz := Nat.le_trans (Nat.le_of_lt fb) (by decide)) (wpAny_pure (h es s.drawn _ en (Heap.SameBut.update _ _ _) ?_)))
      refine ⟨_, ef, epf + 1, { tf with led := tf.led && t.led, plain := tf.plain && t.plain }, store_at f1 f2, fx, rfl, fn.1, fn.2.1, fn.2.2.1, fb, f3, ?_, fr, ?_⟩
      · rw [← Array.length_toList]; exact fn.2.2.2
      · rcases flead with z | z
        · exact Or.inl z
        · exact lead.imp id fun y => by rw [z, y]; rfl
    · exact stay
end
end L3
end
section
namespace L3
open PySem PySem.Spec PyProof.Rows L2
theorem entry_set_and : entryFor table "set.__and__" = some Builtin.«frozenset.__and__» :=
  entryFor_alias (id' := "frozenset.__and__") (by kernel_rfl) rfl (by decide +kernel) (by kernel_rfl)
theorem entry_set_xor : entryFor table "set.__xor__" = some Builtin.«frozenset.__xor__» :=
  entryFor_alias (id' := "frozenset.__xor__") (by kernel_rfl) rfl (by decide +kernel) (by kernel_rfl)
open PySem.Builtin.Frozenset in
theorem and_eq (args : Args) : Builtin.«frozenset.__and__» args = (do
  let (self, other) ← slot1 "__and__" args
  if !(← isAnySet self <&&> isAnySet other) then rule s!"frozenset.{"__and__"}.declined"; return ← ret .notImplemented
  ret (← intersection s!"frozenset.{"__and__"}" (← addrOf self) other)) := rfl
section
variable {P : Program} {w : World} {A : Around} {E : Value → Shared → Prop} {s : Shared} {a b : Addr} {S T : Int → Bool} {n m : Nat}
theorem SetR.typeIs (R : SetR w s.heap a S n) : s.TypeIs (.ref a) "set" := by
  obtain ⟨o, es, ep, t, ho, hex, _⟩ := R
  exact ⟨o, ho, hex.1⟩
open PySem.Builtin.Frozenset in
theorem isAnySet_at {Q : Bool → Shared → Prop} (R : SetR w s.heap a S n) (h : Q true s) : wpAny (model P w) A (isAnySet (.ref a)) Q E s := by
  have t := SetR.typeIs R
  unfold isAnySet orM
  refine wpAny_bind (wpAny_isInstance t sub_set_self ?_)
  exact wpAny_pure h
open PySem.Builtin.Frozenset in
theorem base_at {Q : Value → Shared → Prop} (R : SetR w s.heap a S n) (h : Q (.type "set") s) : wpAny (model P w) A (baseOf a) Q E s := by
  unfold baseOf
  exact wpAny_bind (wpAny_isInstance (SetR.typeIs R) sub_set_self (wpAny_pure h))
/-- a new empty set -/
theorem newSet_at {Q : Value → Shared → Prop} (h : ∀ h', (∀ b o, s.heap.get? b = some o → h'.get? b = some o) → SetR w h' s.heap.objs.size (fun _ => false) 0 →
      (∃ t : SetTable, h'.get? s.heap.objs.size = some { cls := .type "set", dict := none, data := .set #[] 0 t } ∧ t.mask = 7 ∧ t.place = #[] ∧ t.dummies = #[] ∧ (w.params.followText "set-order" = true ∨ t.led = true)) → Q (.ref s.heap.objs.size) { s with heap := h' }) : wpAny (model P w) A (newSet (.type "set")) Q E s := by
  unfold newSet
  refine wpAny_bind (m := setsByText) (wpAny_byText ?_)
  dsimp only
  refine wpAny_newObj_type (h _ (fun b o e => Heap.get?_push_of_some _ e) (setR_fresh w) ⟨.fresh 0 0 (!w.params.followText "set-order"), Heap.get?_push_size s.heap rfl, rfl, rfl, rfl, ?_⟩) (hd := Nat.zero_le _)
  rcases w.params.followText "set-order" with _ | _
  · exact Or.inr rfl
  · exact Or.inl rfl
end
end L3
end
section
namespace L3
open PySem PySem.Spec PyProof.Rows L2
section
variable {P : Program} {w : World} {A : Around} {E : Value → Shared → Prop} {s : Shared} {a b : Addr} {S T : Int → Bool} {n m : Nat}
theorem SetR.but {h h' : Heap} {r : Addr} (R : SetR w h a S n) (sb : Heap.SameBut r h h') (ne : a ≠ r) : SetR w h' a S n := R.at fun o e => (sb.2 a ne).trans e
theorem size_at {Q : Nat → Shared → Prop} (R : SetR w s.heap a S n) (h : Q n s) : wpAny (model P w) A (PySem.Builtin.Frozenset.sizeOf a) Q E s := by
  obtain ⟨o, es, ep, t, there, _, data, he, _, fit, _⟩ := SetR.ents R
  unfold PySem.Builtin.Frozenset.sizeOf
  refine wpAny_bind (wpAny_setEntries_of there data fit (wpAny_pure ?_))
  rw [← Array.length_toList, he.2.2.2]
  exact h
/-- the number of a set's members is bounded -/
theorem SetR.lt_scan (R : SetR w s.heap a S n) : n < scanBound := by
  obtain ⟨_, es, _, _, _, _, _, _, _, _, small, _, many, _⟩ := R
  omega
open PySem.Builtin.Frozenset in
/-- a set whose object is the same as ever has not been changed -/
theorem unchanged_at {id : String} {o : Obj} {es : Array (Int × Value)} {ep : Nat} {t : SetTable} {Q : Unit → Shared → Prop} (ho : s.heap.get? a = some o) (hd : o.data = .set es ep t) (hf : t.fits es.size = true) (h : Q () s) :
    wpAny (model P w) A (unchanged id a ep) Q E s := by
  unfold unchanged
  refine wpAny_bind (m := setEpoch a) (wpAny_setEpoch_of ho hd hf ?_)
  rw [bne_self_eq_false, if_neg Bool.false_ne_true]
  exact wpAny_pure h
/-- is the int k in the set at a? -/
theorem has_at {k : Int} {tk : Tok} {Q : Option Nat → Shared → Prop} (R : SetR w s.heap a S n) (h : ∀ f : Option Nat, f.isSome = S k → Q f s) : wpAny (model P w) A (setFind a (.int k tk) (hashInt k)) Q E s :=
  wpAny_setFind_of (knd := intKind P w) (k := k) (intKind_is P w k tk) rfl R.setOf h
/-- the entries walked so far, and the one that comes next -/
theorem seen_more {p : Int → Bool} {k : Int} {done : List (Int × Value)} {e : Int × Value} (he : keyOf e = k) (j : Int) :
    (p j && decide (j ∈ (done ++ [e]).map keyOf)) = ((p j && decide (j ∈ done.map keyOf)) || (p k && decide (j = k))) := by
  by_cases q : j = k
  · subst q
    cases hp : p j <;> simp [he]
  · have : j ∈ (done ++ [e]).map keyOf ↔ j ∈ done.map keyOf := by
      rw [List.map_append, List.mem_append, List.map_singleton, List.mem_singleton, he]
      exact or_iff_left q
    rw [decide_eq_decide.mpr this, decide_eq_false q, Bool.and_false, Bool.or_false]
open PySem.Builtin.Frozenset in
theorem inter_at {id : String} {Q : Value → Shared → Prop} (Ra : SetR w s.heap a S n) (Rb : SetR w s.heap b T m) (hab : a ≠ b)
    (hQ : ∀ (h' : Heap) (d : Drawn) (c : Nat), (∀ x o, s.heap.get? x = some o → h'.get? x = some o) → SetR w h' s.heap.objs.size (fun k => S k && T k) c → Q (.ref s.heap.objs.size) { s with heap := h', drawn := d }) :
    wpAny (model P w) A (intersection id a (.ref b)) Q E s := by
  have la := Ra.lt
  have lb := Rb.lt
  unfold intersection
  rw [if_neg (by simpa using fun e => hab e.symm)]
  refine wpAny_bind (base_at Ra (wpAny_bind (newSet_at fun h0 old R0 _ => ?_)))
  refine wpAny_bind (wpAny_pure (wpAny_bind (wpAny_holding ?_)))
  have Ra0 : SetR w h0 a S n := Ra.at (old a)
  have Rb0 : SetR w h0 b T m := Rb.at (old b)
  refine wpAny_bind (isAnySet_at Rb0 ?_)
  rw [if_pos rfl]
  refine wpAny_bind (wpAny_pure (wpAny_bind (size_at Rb0 (wpAny_bind (size_at Ra0 ?_)))))
  obtain ⟨p, q, Sp, Sq, np, nq, e, Rp, Rq, lp, lq, both⟩ : ∃ p q Sp Sq np nq, (if m > n then (b, a) else (a, b)) = (p, q) ∧ SetR w h0 p Sp np ∧ SetR w h0 q Sq nq ∧ p < s.heap.objs.size ∧ q < s.heap.objs.size ∧ ∀ k, (S k && T k) = (Sp k && Sq k) := by
    by_cases c : m > n
    · exact ⟨b, a, T, S, m, n, if_pos c, Rb0, Ra0, lb, la, fun k => Bool.and_comm _ _⟩
    · exact ⟨a, b, S, T, n, m, if_neg c, Ra0, Rb0, la, lb, fun k => rfl⟩
  rw [e]
  dsimp only
  have pr : p ≠ s.heap.objs.size := Nat.ne_of_lt lp
  have qr : q ≠ s.heap.objs.size := Nat.ne_of_lt lq
  obtain ⟨oq, eq, epq, tq, q1, _, q2, _, _, q3, _⟩ := SetR.ents (s := { s with heap := h0 }) Rq
  refine wpAny_bind (wpAny_setEpoch_of q1 q2 q3 (wpAny_bind (setWalkUnseen_at (s := { s with heap := h0 }) Rq R0 ?_ fun es d h1 en b1 R1 => ?_)))
  · intro x hx
    rcases List.mem_cons.mp hx with z | z
    · exact z ▸ ⟨Sp, np, Rp⟩
    · rw [List.mem_singleton.mp z]; exact ⟨_, _, R0⟩
  · have top := SetR.lt_scan (s := { s with heap := h0 }) Rq
    refine wpAny_bind (PySem.MeetsSeq2.wpAny_forIn_array _ (fun rest _ s2 => ∃ done c h2, s2 = { s with heap := h2, drawn := d } ∧ es.toList = done ++ rest ∧ Heap.SameBut s.heap.objs.size h0 h2 ∧ SetR w h2 s.heap.objs.size (fun k => Sp k && decide (k ∈ done.map keyOf)) c ∧ c ≤ done.length) _ ?_ ?_ _ _ ?_)
    · rintro x rest _ _ ⟨done, c, h2, rfl, cut, b2, R2, le⟩
      have len : done.length + (rest.length + 1) = nq := by rw [← en.2.2.2, cut]; simp
      obtain ⟨k, tk, x2, x1⟩ := en.1 x (by rw [cut]; simp)
      have key : keyOf x = k := by unfold keyOf; rw [x2]
      obtain ⟨x1', x2'⟩ := x
      dsimp only at x1 x2
      subst x1 x2
      have rest_of : ∀ {h3 : Heap} (Z : Unit → Shared → Prop), Heap.SameBut s.heap.objs.size h2 h3 → Z () { s with heap := h3, drawn := d } → wpAny (model P w) A (unchanged id q epq) Z E { s with heap := h3, drawn := d } :=
        fun Z b3 z => unchanged_at (((b2.trans b3).2 q qr).trans q1) q2 q3 z
      refine wpAny_bind (wpAny_holding (wpAny_bind (has_at (s := { s with heap := h2, drawn := d }) (SetR.but Rp b2 pr) fun f hf => ?_)))
      have cut' : es.toList = (done ++ [(hashInt k, Value.int k tk)]) ++ rest := by rw [cut, List.append_assoc, List.singleton_append]
      rw [hf]
      cases in_p : Sp k with
      | false =>
        rw [if_neg (by decide)]
        refine wpAny_pure (wpAny_bind (rest_of _ (Heap.SameBut.refl _ h2) (wpAny_pure ⟨_, c, h2, rfl, cut', b2, R2.congr fun j => ?_, by simp; omega⟩)))
        rw [seen_more (p := Sp) key j, in_p, Bool.false_and, Bool.or_false]
      | true =>
        rw [if_pos rfl]
        refine wpAny_bind (setR_add_hashed (tk := tk) R2 (by omega) fun h3 b3 R3 => wpAny_pure (wpAny_bind (rest_of _ b3 (wpAny_pure ⟨_, _, h3, rfl, cut', b2.trans b3, R3.congr fun j => ?_, ?_⟩))))
        · rw [seen_more (p := Sp) key j, in_p, Bool.true_and]
        · rw [List.length_append]
          show _ ≤ done.length + 1
          split <;> omega
    · rintro _ _ ⟨done, c, h2, rfl, cut, b2, R2, le⟩
      rw [List.append_nil] at cut
      refine wpAny_pure (wpAny_pure (hQ h2 d c (fun x o z => (b2.2 x (Nat.ne_of_lt (Heap.lt_size z))).trans (old x o z)) (R2.congr fun k => ?_)))
      rw [both k, ← cut, Bool.eq_iff_iff.mpr ((en.2.2.1 k).trans decide_eq_true_iff.symm)]
    · exact ⟨[], 0, h1, rfl, rfl, b1, R1.congr fun k => by simp, Nat.le_refl _⟩
open PySem.Builtin.Frozenset in
theorem call_and {Q : Value → Shared → Prop} (Ra : SetR w s.heap a S n) (Rb : SetR w s.heap b T m) (hab : a ≠ b)
    (hQ : ∀ (h' : Heap) (d : Drawn) (c : Nat), (∀ x o, s.heap.get? x = some o → h'.get? x = some o) → SetR w h' s.heap.objs.size (fun k => S k && T k) c → Q (.ref s.heap.objs.size) { s with heap := h', drawn := d }) :
    wpAny (model P w) A (binaryOp .BitAnd (.ref a) (.ref b)) Q E s := by
  have sa := SetR.typeIs Ra
  refine wpAny_binaryOp_same sa (SetR.typeIs Rb) PySem.F.fills_set_and PySem.F.slot_set_and (wpAny_call_entry PySem.F.slot_set_and sa entry_set_and ?_ (PySem.F.args_set_and_2 _ _))
  rw [and_eq]
  refine wpAny_bind (wpAny_pure (wpAny_bind (m := andM _ _) ?_))
  unfold andM
  refine wpAny_bind (isAnySet_at Ra (isAnySet_at Rb ?_))
  refine wpAny_bind (wpAny_pure (wpAny_bind (inter_at Ra Rb hab fun h' d c k R => ?_)))
  exact wpAny_pure ⟨_, rfl, Value.noConfusion, hQ h' d c k R⟩
end
end L3
end
section
namespace L3
open PySem PySem.Spec PyProof.Rows L2

theorem find_zero {p : Nat → Bool} {n : Nat} (hn : 0 < n) (h : p 0 = true) : (List.range n).find? p = some 0 := by
  cases n with
  | zero => exact absurd hn (by decide)
  | succ m => rw [List.range_succ_eq_map, List.find?_cons, h]
theorem bits_small {h : Int} {mask : Nat} (h0 : 0 ≤ h) (h8 : h < 8) (hm : 7 ≤ mask) : SetTable.bits h % (mask + 1) = h.toNat := by
  have e : SetTable.bits h = h.toNat := by
    unfold SetTable.bits
    rw [Int.emod_eq_of_lt h0 (by omega)]
  rw [e]
  exact Nat.mod_eq_of_lt (by omega)
theorem free_small {owner : Array (Option Nat)} {mask i pert fuel : Nat} (h : owner.getD i (some 0) = none) : SetTable.layClean.free mask owner (fuel + 1) i pert = some i := by
  rw [SetTable.layClean.free]
  have hz : (List.range (SetTable.runEnd mask i + 1 - i)).find? (fun k => (owner.getD (i + k) (some 0)).isNone) = some 0 := by
    refine find_zero ?_ ?_
    · unfold SetTable.runEnd
      split <;> omega
    · show (owner.getD (i + 0) (some 0)).isNone = true
      rw [Nat.add_zero, h]; rfl
  rw [hz]
  rfl
def layStep (mask : Nat) (acc : Option (Array (Option Nat) × Nat)) (h : Int) : Option (Array (Option Nat) × Nat) :=
  acc.bind fun p => (SetTable.layClean.free mask p.1 (mask + 15) (SetTable.bits h % (mask + 1)) (SetTable.bits h)).bind fun j => some (p.1.setIfInBounds j (some p.2), p.2 + 1)
theorem lay_fold {mask : Nat} (hm : 7 ≤ mask) : ∀ (hs : List Int) (owner : Array (Option Nat)) (k : Nat), owner.size = mask + 1 → (∀ h ∈ hs, 0 ≤ h ∧ h < 8) → hs.Nodup → (∀ h ∈ hs, owner.getD h.toNat (some 0) = none) →
    ∃ owner', hs.foldl (layStep mask) (some (owner, k)) = some (owner', k + hs.length) ∧ owner'.size = mask + 1 ∧ ∀ j q : Nat, owner'.getD j none = some q ↔ (owner.getD j none = some q ∨ (k ≤ q ∧ hs[q - k]? = some (j : Int)))
  | [], owner, k, hsz, _, _, _ => ⟨owner, rfl, hsz, fun j q => by simp⟩
  | h :: hs, owner, k, hsz, hr, hn, hf => by
    obtain ⟨h0, h8⟩ := hr h List.mem_cons_self
    have hfree := hf h List.mem_cons_self
    have hst : layStep mask (some (owner, k)) h = some (owner.setIfInBounds h.toNat (some k), k + 1) := by
      unfold layStep
      rw [bits_small h0 h8 hm]
      show (SetTable.layClean.free mask owner (mask + 14 + 1) h.toNat (SetTable.bits h)).bind _ = _
      rw [free_small hfree]
      rfl
    obtain ⟨hn1, hn2⟩ := List.nodup_cons.mp hn
    have hg : ∀ (j : Nat) (d : Option Nat), (owner.setIfInBounds h.toNat (some k)).getD j d = if j = h.toNat then some k else owner.getD j d := by
      intro j d
      simp only [Array.getD_eq_getD_getElem?, Array.getElem?_setIfInBounds]
      by_cases e : h.toNat = j
      · rw [if_pos e, if_pos e.symm, if_pos (by rw [hsz]; omega)]
        rfl
      · rw [if_neg e, if_neg (fun z => e z.symm)]
    obtain ⟨o', e1, e2, e3⟩ := lay_fold hm hs (owner.setIfInBounds h.toNat (some k)) (k + 1) (by rw [Array.size_setIfInBounds]; exact hsz) (fun x hx => hr x (List.mem_cons_of_mem _ hx)) hn2 (fun x hx => by
      obtain ⟨x0, x8⟩ := hr x (List.mem_cons_of_mem _ hx)
      rw [hg, if_neg (fun z => hn1 (by have : x = h := by omega
                                       rw [← this]; exact hx))]
      exact hf x (List.mem_cons_of_mem _ hx))
    refine ⟨o', ?_, e2, fun j q => ?_⟩
    · rw [List.foldl_cons, hst, e1, List.length_cons]
      congr 2
      omega
    · rw [e3, hg]
      have hd : owner.getD h.toNat none = none := by
        have q := hfree
        simp only [Array.getD_eq_getD_getElem?] at q ⊢
        cases z : owner[h.toNat]? with
        | none => rfl
        | some v => rw [z] at q; exact q
      by_cases e : j = h.toNat
      · rw [if_pos e, e, hd]
        constructor
        · rintro (z | ⟨z1, z2⟩)
          · right
            have : k = q := Option.some.inj z
            subst this
            refine ⟨Nat.le_refl _, ?_⟩
            rw [Nat.sub_self]
            show some h = some ((h.toNat : Nat) : Int)
            congr 1; omega
          · exfalso
            have hm' : ((h.toNat : Nat) : Int) ∈ hs := List.mem_of_getElem? z2
            rw [Int.toNat_of_nonneg h0] at hm'
            exact hn1 hm'
        · rintro (z | ⟨z1, z2⟩)
          · cases z
          · by_cases eq : q = k
            · left; rw [eq]
            · exfalso
              have : q - k = (q - k - 1) + 1 := by omega
              rw [this, List.getElem?_cons_succ] at z2
              have hm' : ((h.toNat : Nat) : Int) ∈ hs := List.mem_of_getElem? z2
              rw [Int.toNat_of_nonneg h0] at hm'
              exact hn1 hm'
      · rw [if_neg e]
        constructor
        · rintro (z | ⟨z1, z2⟩)
          · exact .inl z
          · right
            refine ⟨by omega, ?_⟩
            have : q - k = (q - (k + 1)) + 1 := by omega
            rw [this, List.getElem?_cons_succ]
            exact z2
        · rintro (z | ⟨z1, z2⟩)
          · exact .inl z
          · right
            by_cases eq : q = k
            · exfalso
              rw [eq, Nat.sub_self] at z2
              have : h = (j : Int) := Option.some.inj z2
              omega
            · refine ⟨by omega, ?_⟩
              have : q - k = (q - (k + 1)) + 1 := by omega
              rw [this, List.getElem?_cons_succ] at z2
              exact z2

theorem clean_owner {mask : Nat} (hm : 7 ≤ mask) (hs : Array Int) (hr : ∀ h ∈ hs.toList, 0 ≤ h ∧ h < 8) (hn : hs.toList.Nodup) :
    ∃ own, SetTable.layClean mask hs = some own ∧ ∀ j q : Nat, own.getD j none = some q ↔ hs.toList[q]? = some (j : Int) := by
  have spread : SetTable.layClean mask hs = (hs.toList.foldl (layStep mask) (some (Array.replicate (mask + 1) none, 0))).map (·.1) := by
    rw [Array.foldl_toList]
    rfl
  have none_there : ∀ (j : Nat) (d : Option Nat), j < mask + 1 → (Array.replicate (mask + 1) (none : Option Nat)).getD j d = none := fun j d lt => by
    simp [lt]
  obtain ⟨own, e1, _, e3⟩ := lay_fold hm hs.toList (Array.replicate (mask + 1) none) 0 (by simp) hr hn (fun h hh => none_there _ _ (by have := hr h hh; omega))
  refine ⟨own, by rw [spread, e1]; rfl, fun j q => (e3 j q).trans ?_⟩
  have nil : (Array.replicate (mask + 1) (none : Option Nat)).getD j none ≠ some q := by
    by_cases lt : j < mask + 1
    · rw [none_there j none lt]; simp
    · simp [lt]
  exact (or_iff_right nil).trans (by simp)
theorem laid_ok {mask f mv : Nat} {led plain : Bool} (hm : 7 ≤ mask) (hs : Array Int) (hr : ∀ h ∈ hs.toList, 0 ≤ h ∧ h < 8) (hn : hs.toList.Nodup) :
    ∃ (t : SetTable) (order : Array Nat), SetTable.laid mask f mv led plain hs = some (t, order) ∧ t.mask = mask ∧ t.dummies = #[] ∧ t.led = led ∧ t.place.size = hs.size ∧ Ris t.place.toList ∧ order.toList.Perm (List.range hs.size) := by
  obtain ⟨own, e, tells⟩ := clean_owner hm hs hr hn
  -- who stands in which slot, slot by slot
  have second : (((List.range (mask + 1)).filterMap fun j => (own.getD j none).map (j, ·)).map (·.2)) = (List.range (mask + 1)).filterMap fun j => own.getD j none := by
    rw [List.map_filterMap]
    congr 1
    funext j
    cases own.getD j none <;> rfl
  have perm : ((List.range (mask + 1)).filterMap fun j => own.getD j none).Perm (List.range hs.size) := by
    refine (List.perm_ext_iff_of_nodup ?_ List.nodup_range).mpr fun q => ?_
    · refine List.pairwise_filterMap.mpr (List.nodup_range.imp fun {i j} ne x hx y hy xy => ne ?_)
      subst xy
      exact Int.ofNat_inj.mp (Option.some.inj (((tells i x).mp hx).symm.trans ((tells j x).mp hy)))
    · rw [List.mem_filterMap, List.mem_range]
      constructor
      · rintro ⟨j, _, hj⟩
        have := (List.getElem?_eq_some_iff.mp ((tells j q).mp hj)).1
        simpa using this
      · intro lt
        have lt' : q < hs.toList.length := by simpa using lt
        have b := hr hs.toList[q] (List.getElem_mem lt')
        refine ⟨hs.toList[q].toNat, List.mem_range.mpr (by omega), (tells _ q).mpr ?_⟩
        rw [List.getElem?_eq_getElem lt', Int.toNat_of_nonneg b.1]
  refine ⟨_, _, by unfold SetTable.laid; rw [e]; rfl, rfl, rfl, rfl, ?_, ?_, ?_⟩
  · have := perm.length_eq
    rw [← second, List.length_map, List.length_range] at this
    simpa using this
  · exact (ris_live (fun j => own.getD j none) (List.range (mask + 1)) List.pairwise_lt_range).1
  · rw [← second] at perm
    exact perm
end L3
end
section
namespace L3
open PySem PySem.Spec PyProof.Rows L2
theorem toList_eraseAt {α : Type} (xs : Array α) (p : Nat) : (SetTable.eraseAt xs p).toList = xs.toList.eraseIdx p := by
  simp only [SetTable.eraseAt, Array.toList_append, Array.toList_extract, List.extract_eq_take_drop, Nat.sub_zero, List.drop_zero]
  rw [List.eraseIdx_eq_take_drop_succ]
  congr 1
  rw [List.take_of_length_le]
  simp
theorem filterMap_get {α : Type} : ∀ (l : List α), (List.range l.length).filterMap (fun i => l[i]?) = l
  | [] => rfl
  | x :: l => by
    rw [List.length_cons, List.range_succ_eq_map, List.filterMap_cons]
    show x :: ((List.range l.length).map Nat.succ).filterMap (fun i => (x :: l)[i]?) = x :: l
    rw [List.filterMap_map]
    congr 1
    exact filterMap_get l
theorem rawHash_small {k : Int} (h0 : 0 ≤ k) (h8 : k < 8) : hashInt k = k := by
  have : k = 0 ∨ k = 1 ∨ k = 2 ∨ k = 3 ∨ k = 4 ∨ k = 5 ∨ k = 6 ∨ k = 7 := by omega
  rcases this with e | e | e | e | e | e | e | e <;> subst e <;> decide +kernel
/-- a table with nothing in it -/
def Bare (w : World) (h : Heap) (r : Addr) : Prop := ∃ (t : SetTable) (ep : Nat), h.get? r = some { cls := .type "set", dict := none, data := .set #[] ep t } ∧ 7 ≤ t.mask ∧ t.place = #[] ∧ t.dummies = #[] ∧ (w.params.followText "set-order" = true ∨ t.led = true)
section
variable {P : Program} {w : World} {A : Around} {E : Value → Shared → Prop} {s : Shared} {a b : Addr} {S T : Int → Bool} {n m : Nat}

/-- a table laid anew for all entries loses none of them -/
theorem none_lost {es : Array (Int × Value)} {order : Array Nat} (p : order.toList.Perm (List.range es.size)) : (order.filterMap (es[·]?)).toList.Perm es.toList := by
  rw [Array.toList_filterMap]
  refine (p.filterMap _).trans (List.Perm.of_eq ?_)
  have := filterMap_get es.toList
  simpa using this
theorem none_lost_ne {es : Array (Int × Value)} {order : Array Nat} (p : order.toList.Perm (List.range es.size)) : ¬ ((order.filterMap (es[·]?)).size != es.size) = true := by
  have := (none_lost p).length_eq
  rw [Array.length_toList, Array.length_toList] at this
  rw [this, bne_self_eq_false]
  exact Bool.false_ne_true
/-- a bare set with room for k more is bare -/
theorem room_at {r : Addr} {k : Nat} {Q : Unit → Shared → Prop} (hr : Bare w s.heap r) (hk : k ≤ 8) (hQ : ∀ h', Heap.SameBut r s.heap h' → Bare w h' r → Q () { s with heap := h' }) : wpAny (model P w) A (setRoomFor r k) Q E s := by
  obtain ⟨t, ep, there, big, noPlace, noDummy, lead⟩ := hr
  have fit : t.fits (#[] : Array (Int × Value)).size = true := by
    simp [SetTable.fits, SetTable.fill, noPlace, noDummy]
  unfold setRoomFor
  refine wpAny_bind (wpAny_setState_of there rfl fit ?_)
  dsimp only
  have room : t.roomFor k = if k * 5 ≥ t.mask * 3 then some (k * 2) else none := by
    simp [SetTable.roomFor, SetTable.fill, noPlace, noDummy]
  rw [room]
  split
  next wanted hw =>
    have hw2 : wanted = k * 2 := by
      split at hw
      · exact (Option.some.inj hw).symm
      · cases hw
    subst hw2
    have size : 7 ≤ SetTable.sizeAbove (k * 2) - 1 ∧ SetTable.sizeAbove (k * 2) ≤ sizeLine := by
      have : ∀ j : Fin 9, 7 ≤ SetTable.sizeAbove (j.val * 2) - 1 ∧ SetTable.sizeAbove (j.val * 2) ≤ sizeLine := by decide +kernel
      exact this ⟨k, by omega⟩
    obtain ⟨t', order, e1, m1, d1, l1, s1, _, p1⟩ := laid_ok (f := t.finger) (mv := t.movedTo (SetTable.sizeAbove (k * 2) - 1)) (led := t.led) (plain := t.plain) size.1 ((#[] : Array (Int × Value)).map (·.1)) (fun h hh => by simp at hh) (by simp)
    have e2 : t.relaid ((#[] : Array (Int × Value)).map (·.1)) (k * 2) = some (t', order) := e1
    unfold setRelay
    refine wpAny_bind (wpAny_setState_of there rfl fit ?_)
    dsimp only
    refine wp_if_neg (by omega) ?_
    rw [e2]
    have all : order.toList.Perm (List.range (#[] : Array (Int × Value)).size) := by simpa using p1
    have empty : order.filterMap ((#[] : Array (Int × Value))[·]?) = #[] := by
      have := (none_lost all).length_eq
      exact Array.eq_empty_of_size_eq_zero (by simpa using this)
    refine wpAny_bind (wpAny_of_eq (a := (order.filterMap ((#[] : Array (Int × Value))[·]?), t')) (if_neg (none_lost_ne all)) ?_)
    rw [empty]
    refine wpAny_storeSet_of there rfl (hQ _ (Heap.SameBut.update _ _ _) ⟨t', _, store_at there rfl, ?_, Array.eq_empty_of_size_eq_zero (by simpa using s1), d1, ?_⟩)
    · rw [m1]; exact size.1
    · rw [l1]; exact lead
  next => exact wpAny_pure (hQ s.heap (Heap.SameBut.refl _ _) ⟨t, ep, there, big, noPlace, noDummy, lead⟩)
/-- a bare table that is given the entries of a set is that set -/
theorem setR_filled {h : Heap} {r : Addr} {es0 es : Array (Int × Value)} {ep : Nat} {t0 t : SetTable} (there : h.get? r = some { cls := .type "set", dict := none, data := .set es0 ep t0 }) (en : Ents T m es.toList) (small : es.size < scanBound) (fit : t.fits es.size = true) (up : Ris t.place.toList)
    (lead : w.params.followText "set-order" = true ∨ t.led = true) : SetR w (h.update r (Obj.putSet es t)) r T m :=
  ⟨_, es, ep + 1, t, store_at there rfl, ⟨rfl, rfl, rfl⟩, rfl, en.1, en.2.1, en.2.2.1, small, fit, by rw [← Array.length_toList]; exact en.2.2.2, up, lead⟩
theorem fits_of {t : SetTable} {n : Nat} (hp : t.place.size = n) (hd : t.dummies = #[]) (hm : n ≤ t.mask) : t.fits n = true := by
  simp [SetTable.fits, SetTable.fill, hp, hd, hm]
open PySem.Builtin.Frozenset in
theorem merge_at {id : String} {r : Addr} {Q : Unit → Shared → Prop} (Rb : SetR w s.heap b T m) (hk : ∀ k, T k = true → 0 ≤ k ∧ k < 8) (hm8 : m ≤ 7)
    (hr : Bare w s.heap r) (hrb : r ≠ b)
    (hQ : ∀ h', Heap.SameBut r s.heap h' → SetR w h' r T m → Q () { s with heap := h' }) :
    wpAny (model P w) A (merge id r b) Q E s := by
  obtain ⟨o, es, ep, t, b1, _, b2, en, b3, fit, up, lead⟩ := SetR.ents Rb
  have many : es.size = m := by rw [← Array.length_toList]; exact en.2.2.2
  -- small ints are their own hashes
  have own : ∀ e ∈ es.toList, e.1 = keyOf e ∧ 0 ≤ e.1 ∧ e.1 < 8 := by
    intro e he
    obtain ⟨k, tk, e2, e1⟩ := en.1 e he
    have key : keyOf e = k := by unfold keyOf; rw [e2]
    have lim := hk k ((en.2.2.1 k).mpr (List.mem_map.mpr ⟨e, he, key⟩))
    rw [rawHash_small lim.1 lim.2] at e1
    exact ⟨e1.trans key.symm, by omega, by omega⟩
  have hashes : (es.map (·.1)).toList = es.toList.map keyOf := by
    rw [Array.toList_map]
    exact List.map_congr_left fun e he => (own e he).1
  unfold merge
  refine wpAny_bind (wpAny_setEpoch_of b1 b2 fit ?_)
  unfold setMerge
  rw [if_neg (by simpa using hrb)]
  refine wpAny_bind (wpAny_setState_of b1 b2 fit ?_)
  dsimp only
  split
  next nothing =>
    obtain ⟨t0, ep0, q1, q2, q3, q4, q5⟩ := hr
    have e0 : es = #[] := Array.isEmpty_iff.mp nothing
    subst e0
    refine wpAny_pure (hQ s.heap (Heap.SameBut.refl _ _) ⟨_, #[], ep0, t0, q1, ⟨rfl, rfl, rfl⟩, rfl, en.1, en.2.1, en.2.2.1, b3, fits_of (by rw [q3]; rfl) q4 (Nat.zero_le _), many, ?_, q5⟩)
    rw [q3]
    exact List.Pairwise.nil
  next =>
    refine wpAny_bind (room_at hr (by omega) fun h1 same bare => ?_)
    obtain ⟨t0, ep0, q1, q2, q3, q4, q5⟩ := bare
    have bb : h1.get? b = some o := (same.2 b hrb.symm).trans b1
    refine wpAny_bind (wpAny_setState_of q1 rfl (fits_of (by rw [q3]; rfl) q4 (Nat.zero_le _)) ?_)
    dsimp only
    have road : t0.road t = if (t0.mask == t.mask && t.dummies.isEmpty) = true then .slotForSlot else .clean := by
      simp [SetTable.road, SetTable.fill, q3, q4]
    rw [road]
    have leads : w.params.followText "set-order" = true ∨ (t0.led && t.led) = true := by
      rcases lead with z | z
      · exact Or.inl z
      · exact q5.imp (fun x => x) fun y => by rw [y, z]; rfl
    have roomy : es.size ≤ sizeLine := Nat.le_trans (Nat.le_of_lt b3) (by decide)
    by_cases c : (t0.mask == t.mask && t.dummies.isEmpty) = true
    · rw [if_pos c]
      exact wpAny_storeSet_of q1 rfl (hz := roomy) (hQ _ (same.trans (Heap.SameBut.update _ _ _)) (setR_filled q1 en b3 fit up leads))
    · rw [if_neg c]
      obtain ⟨t1, order, e1, m1, d1, l1, s1, up1, p1⟩ := laid_ok (f := t0.finger) (mv := t0.moves) (led := t0.led && t.led) (plain := t0.plain && t.plain) q2 (es.map (·.1)) (fun h hh => by
        rw [Array.toList_map, List.mem_map] at hh
        obtain ⟨e, he, rfl⟩ := hh
        exact (own e he).2) (by rw [hashes]; exact en.2.1)
      have s2 : t1.place.size = es.size := by simpa using s1
      have all : order.toList.Perm (List.range es.size) := by simpa using p1
      have cnt : (order.filterMap (es[·]?)).size = es.size := by
        have := (none_lost all).length_eq
        simpa only [Array.length_toList] using this
      dsimp only
      rw [e1]
      refine wpAny_bind (wpAny_of_eq (a := (order.filterMap (es[·]?), t1)) (if_neg (none_lost_ne all)) ?_)
      refine wpAny_storeSet_of q1 rfl (hz := by rw [cnt]; exact roomy) (hQ _ (same.trans (Heap.SameBut.update _ _ _)) (setR_filled q1 (en.perm (none_lost all)) (by rw [cnt]; exact b3) (fits_of (s2.trans cnt.symm) d1 ?_) up1 (by rw [l1]; exact leads)))
      rw [cnt, m1, many]
      omega
theorem find_key {es : List (Int × Value)} {k : Int} {i : Nat} (h : es.findIdx? (fun e => keyOf e == k) = some i) : ∃ e, es[i]? = some e ∧ keyOf e = k := by
  obtain ⟨lt, hk, _⟩ := List.findIdx?_eq_some_iff_getElem.mp h
  exact ⟨es[i], List.getElem?_eq_getElem lt, by simpa using hk⟩
/-- where the scan stops -/
def stopAt (k : Int) (es : List (Int × Value)) (i : Nat) : ScanMet := match es.findIdx? (fun e => keyOf e == k) with
  | some j => .found (j + i)
  | none => .absent
theorem stopAt_other {k : Int} {e : Int × Value} {es : List (Int × Value)} {i : Nat} (ne : keyOf e ≠ k) : stopAt k (e :: es) i = stopAt k es (i + 1) := by
  unfold stopAt
  rw [List.findIdx?_cons, if_neg (by simpa using ne)]
  cases es.findIdx? (fun e => keyOf e == k) with
  | none => rfl
  | some j => exact congrArg ScanMet.found (by show j + 1 + i = j + (i + 1); omega)
theorem scan_at {o : Obj} {es : Array (Int × Value)} {ep : Nat} {t : SetTable} {k : Int} {tk : Tok} {Q : ScanMet → Shared → Prop} (ho : s.heap.get? a = some o) (hd : o.data = .set es ep t) (hf : t.fits es.size = true) :
    ∀ (l : List (Int × Value)) (i : Nat), (∀ e ∈ l, GoodE e) → Q (stopAt k l i) s → wpAny (model P w) A (setScanFrom a (.int k tk) (hashInt k) false l i) Q E s
  | [], i, _, q => by
    unfold setScanFrom
    exact wpAny_pure q
  | (h', y) :: rest, i, good, q => by
    obtain ⟨k', tk', e2, e1⟩ := good _ List.mem_cons_self
    dsimp only at e1 e2
    subst e1 e2
    have next : keyOf (hashInt k', Value.int k' tk') ≠ k → wpAny (model P w) A (setScanFrom a (.int k tk) (hashInt k) false rest (i + 1)) Q E s :=
      fun ne => scan_at ho hd hf rest (i + 1) (fun e he => good e (List.mem_cons_of_mem _ he)) (stopAt_other (i := i) (es := rest) ne ▸ q)
    unfold setScanFrom
    split
    · refine wpAny_bind (wpAny_setEpoch_of ho hd hf (wpAny_bind (wpAny_eqBool_int ?_)))
      rw [Bool.false_and, if_neg Bool.false_ne_true]
      refine wpAny_bind (m := setEpoch a) (wpAny_setEpoch_of ho hd hf ?_)
      rw [bne_self_eq_false, if_neg Bool.false_ne_true]
      by_cases same : k' = k
      · rw [if_pos (by simpa using same)]
        have here : stopAt k ((hashInt k', Value.int k' tk') :: rest) i = .found i := by
          simp [stopAt, List.findIdx?_cons, keyOf, same]
        rw [here] at q
        exact wpAny_pure q
      · rw [if_neg (by simpa using same)]
        exact next same
    · rename_i differ
      refine next fun same => differ ?_
      have : k' = k := same
      rw [this]
      exact beq_self_eq_true _
theorem scan_for {es : Array (Int × Value)} {k : Int} {tk : Tok} (good : ∀ e ∈ es.toList, GoodE e) (small : es.size < scanBound) : byScan (.int k tk) es = true := by
  have all : es.all (·.2.scannable) = true := by
    refine Array.all_toList ▸ List.all_eq_true.mpr fun e he => ?_
    obtain ⟨k, tk, e2, _⟩ := good e he
    rw [e2]; rfl
  unfold byScan
  rw [all, decide_eq_true small]
  rfl
theorem index_at {o : Obj} {es : Array (Int × Value)} {ep : Nat} {t : SetTable} {k : Int} {tk : Tok} {Q : Option Nat → Shared → Prop} (ho : s.heap.get? a = some o) (hd : o.data = .set es ep t) (hf : t.fits es.size = true) (good : ∀ e ∈ es.toList, GoodE e) (small : es.size < scanBound)
    (h : Q (es.toList.findIdx? (fun e => keyOf e == k)) s) : wpAny (model P w) A (setFind a (.int k tk) (hashInt k)) Q E s := by
  unfold setFind setFindIn
  refine wpAny_bind (m := setState a) (wpAny_setState_of ho hd hf ?_)
  dsimp only
  rw [if_pos (scan_for good small)]
  refine wpAny_bind (wpAny_rule (tag := _) (wpAny_bind (scan_at ho hd hf es.toList 0 good ?_)))
  unfold stopAt
  cases e : es.toList.findIdx? (fun e => keyOf e == k) with
  | none => rw [e] at h; exact wpAny_pure h
  | some i => rw [e] at h; exact wpAny_pure h
theorem ris_erase {xs : Array Nat} (r : Ris xs.toList) (i : Nat) : Ris (SetTable.eraseAt xs i).toList := by
  rw [toList_eraseAt]
  exact r.sublist (List.eraseIdx_sublist _ _)
theorem size_erase {α : Type} {xs : Array α} {i : Nat} (lt : i < xs.size) : (SetTable.eraseAt xs i).size = xs.size - 1 := by
  rw [← Array.length_toList, toList_eraseAt, List.length_eraseIdx_of_lt (by simpa using lt), Array.length_toList]
theorem size_insert {α : Type} (xs : Array α) (i : Nat) (x : α) : (SetTable.insertAt xs i x).size = xs.size + 1 := by
  simp [SetTable.insertAt]
  omega
/-- a member taken out -/
theorem setR_discard {k : Int} {tk : Tok} {Q : Bool → Shared → Prop} (R : SetR w s.heap a S n)
    (hQ : ∀ h', Heap.SameBut a s.heap h' → SetR w h' a (fun j => S j && !decide (j = k)) (if S k = true then n - 1 else n) → Q (S k) { s with heap := h' }) :
    wpAny (model P w) A (setDiscardHashed a (.int k tk) (hashInt k)) Q E s := by
  have R0 := R
  obtain ⟨o, es, ep, t, there, exact_set, data, en, small, fit, up, lead⟩ := SetR.ents R
  unfold setDiscardHashed
  refine wpAny_bind (index_at there data fit en.1 small ?_)
  cases found : es.toList.findIdx? (fun e => keyOf e == k) with
  | none =>
    have out : S k = false := by
      rw [← Bool.not_eq_true, en.2.2.1 k]
      intro hk
      obtain ⟨e, he, ke⟩ := List.mem_map.mp hk
      have := List.findIdx?_eq_none_iff.mp found e he
      simp [ke] at this
    have q := hQ s.heap (Heap.SameBut.refl _ _)
    rw [out, if_neg Bool.false_ne_true] at q
    refine wpAny_pure (q (R0.congr fun j => ?_))
    by_cases e : j = k
    · rw [e, out]; rfl
    · simp [e]
  | some i =>
    obtain ⟨e, ei, ke⟩ := find_key found
    have is_in : S k = true := (en.2.2.1 k).mpr (List.mem_map.mpr ⟨e, List.mem_of_getElem? ei, ke⟩)
    have lt : i < es.size := by simpa using (List.getElem?_eq_some_iff.mp ei).1
    have perm := erase_perm es.toList i e ei
    rw [← toList_eraseAt] at perm
    have nd := (perm.map keyOf).nodup_iff.mpr en.2.1
    rw [List.map_cons, List.nodup_cons, ke] at nd
    have q := fun h' b => hQ h' b
    rw [is_in, if_pos rfl] at q
    refine wpAny_bind (wpAny_setState_of there data fit ?_)
    have fit2 : t.place.size = es.size ∧ t.fill ≤ t.mask := by simpa [SetTable.fits] using fit
    obtain ⟨j, hj⟩ : ∃ j, t.place[i]? = some j := ⟨_, Array.getElem?_eq_getElem (fit2.1 ▸ lt)⟩
    have dropped : t.drop i = { t with place := SetTable.eraseAt t.place i, dummies := SetTable.insertAt t.dummies (SetTable.below t.dummies j) j } := by
      unfold SetTable.drop; rw [hj]
    dsimp only
    rw [dropped]
    have sz : (SetTable.eraseAt es i).size = es.size - 1 := size_erase lt
    refine wpAny_bind (wpAny_storeSet_of there data (hz := Nat.le_trans (Nat.le_of_lt (by omega : (SetTable.eraseAt es i).size < scanBound)) (by decide)) (wpAny_bind (wpAny_point (wpAny_pure (q _ (Heap.SameBut.update _ _ _) ⟨_, _, _, _, store_at there data, exact_set, rfl, ?_, nd.2, ?_, ?_, ?_, ?_, ris_erase up i, lead⟩)))))
    · exact fun x hx => en.1 x (perm.mem_iff.mp (List.mem_cons_of_mem _ hx))
    · intro x
      have m1 : x ∈ es.toList.map keyOf ↔ x = k ∨ x ∈ (SetTable.eraseAt es i).toList.map keyOf := by
        rw [← (perm.map keyOf).mem_iff, List.map_cons, List.mem_cons, ke]
      have m2 := (en.2.2.1 x).trans m1
      by_cases e : x = k
      · subst e; simpa using nd.1
      · simpa [e] using m2
    · omega
    · have a1 : (SetTable.eraseAt t.place i).size = t.place.size - 1 := size_erase (by omega)
      have a2 := size_insert t.dummies (SetTable.below t.dummies j) j
      have a3 : t.place.size + t.dummies.size ≤ t.mask := fit2.2
      have a4 := fit2.1
      have b1 : (SetTable.eraseAt t.place i).size = (SetTable.eraseAt es i).size := by omega
      have b2 : (SetTable.eraseAt t.place i).size + (SetTable.insertAt t.dummies (SetTable.below t.dummies j) j).size ≤ t.mask := by omega
      exact (Bool.and_eq_true _ _).mpr ⟨beq_iff_eq.mpr b1, decide_eq_true b2⟩
    · rw [sz, ← Array.length_toList, en.2.2.2]
end
end L3
end
section
namespace L3
open PySem PySem.Spec PyProof.Rows L2
open PySem.Builtin.Frozenset in
theorem xor_eq (args : Args) : Builtin.«frozenset.__xor__» args = (do
  let (self, other) ← slot1 "__xor__" args
  if !(← isAnySet self <&&> isAnySet other) then rule s!"frozenset.{"__xor__"}.declined"; return ← ret .notImplemented
  let l ← addrOf self
  let v ← (do
    let base ← baseOf l
    let result ← newFrom s!"frozenset.{"__xor__"}" base other
    let ra ← addrOf result
    holding [result] (symmetricDifferenceUpdate s!"frozenset.{"__xor__"}" ra (.ref l))
    return result)
  ret v) := rfl
section
variable {P : Program} {w : World} {A : Around} {E : Value → Shared → Prop} {s : Shared} {a b : Addr} {S T : Int → Bool} {n m : Nat}
/-- one more entry of the other set is turned -/
theorem turned_more {p : Int → Bool} {k : Int} {done : List (Int × Value)} {e : Int × Value} (he : keyOf e = k) (fresh : k ∉ done.map keyOf) (j : Int) :
    (p j != decide (j ∈ (done ++ [e]).map keyOf)) = if j = k then !(p k != decide (k ∈ done.map keyOf)) else (p j != decide (j ∈ done.map keyOf)) := by
  have cut : j ∈ (done ++ [e]).map keyOf ↔ j ∈ done.map keyOf ∨ j = k := by rw [List.map_append, List.mem_append, List.map_singleton, List.mem_singleton, he]
  rw [decide_eq_decide.mpr cut]
  by_cases q : j = k
  · subst q
    rw [if_pos rfl, decide_eq_false fresh, decide_eq_true (Or.inr rfl : j ∈ done.map keyOf ∨ j = j)]
    cases p j <;> rfl
  · rw [if_neg q, decide_eq_decide.mpr (or_iff_left q)]
open PySem.Builtin.Frozenset in
theorem sdu_at {id : String} {r o' : Addr} {Q : Unit → Shared → Prop} (Rr : SetR w s.heap r T m) (Ro : SetR w s.heap o' S n) (hro : r ≠ o') (hb2 : n + m + 1 < scanBound)
    (hQ : ∀ (h' : Heap) (d : Drawn) (c : Nat), Heap.SameBut r s.heap h' → SetR w h' r (fun k => S k != T k) c → Q () { s with heap := h', drawn := d }) :
    wpAny (model P w) A (symmetricDifferenceUpdate id r (.ref o')) Q E s := by
  obtain ⟨o, eo, ep, t, o1, _, o2, _, _, o3, _⟩ := SetR.ents Ro
  unfold symmetricDifferenceUpdate
  rw [if_neg (by simpa using hro.symm)]
  refine wpAny_bind (wpAny_typeOf (SetR.typeIs Ro) ?_)
  rw [if_neg (by decide)]
  refine wpAny_bind (isAnySet_at Ro ?_)
  rw [if_pos rfl]
  refine wpAny_bind (wpAny_pure (wpAny_bind (wpAny_pure (wpAny_bind (wpAny_setEpoch_of o1 o2 o3 (wpAny_holding ?_))))))
  refine wpAny_bind (setWalkUnseen_at Ro Rr (fun x hx => (List.mem_singleton.mp hx) ▸ ⟨T, m, Rr⟩) fun es d h1 en b1 R1 => ?_)
  refine wpAny_bind (PySem.MeetsSeq2.wpAny_forIn_array _ (fun rest _ s2 => ∃ done c h2, s2 = { s with heap := h2, drawn := d } ∧ es.toList = done ++ rest ∧ Heap.SameBut r s.heap h2 ∧ SetR w h2 r (fun k => T k != decide (k ∈ done.map keyOf)) c ∧ c ≤ m + done.length) _ ?_ ?_ _ _ ?_)
  · rintro x rest _ _ ⟨done, c, h2, rfl, cut, b2, R2, le⟩
    have len : done.length + (rest.length + 1) = n := by rw [← en.2.2.2, cut]; simp
    obtain ⟨k, tk, x2, x1⟩ := en.1 x (by rw [cut]; simp)
    have key : keyOf x = k := by unfold keyOf; rw [x2]
    have fresh : k ∉ done.map keyOf := by
      have nd := en.2.1
      rw [cut, List.map_append, List.nodup_append] at nd
      exact fun hk => nd.2.2 k hk k (by rw [List.map_cons, key]; exact List.mem_cons_self) rfl
    obtain ⟨x1', x2'⟩ := x
    dsimp only at x1 x2
    subst x1 x2
    have after : ∀ {h3 : Heap} (Z : Unit → Shared → Prop), Heap.SameBut r h2 h3 → Z () { s with heap := h3, drawn := d } → wpAny (model P w) A (unchanged id o' ep) Z E { s with heap := h3, drawn := d } :=
      fun Z b3 z => unchanged_at (((b2.trans b3).2 o' hro.symm).trans o1) o2 o3 z
    have cut' : es.toList = (done ++ [(hashInt k, Value.int k tk)]) ++ rest := by rw [cut, List.append_assoc, List.singleton_append]
    have more := turned_more (p := T) (e := (hashInt k, Value.int k tk)) key fresh
    have lenz : (done ++ [(hashInt k, Value.int k tk)]).length = done.length + 1 := by simp
    refine wpAny_bind (wpAny_holding (wpAny_bind (setR_discard R2 fun h3 b3 R3 => ?_)))
    dsimp only
    have Tk : (T k != decide (k ∈ done.map keyOf)) = T k := by rw [decide_eq_false fresh]; cases T k <;> rfl
    rw [Tk] at more R3 ⊢
    cases was : T k with
    | true =>
      rw [was] at more
      refine wpAny_pure (wpAny_bind (after _ b3 (wpAny_pure ⟨_, _, h3, rfl, cut', b2.trans b3, R3.congr fun j => ?_, ?_⟩)))
      · rw [more j]
        by_cases q : j = k
        · simp [q]
        · simp [q]
      · rw [was, if_pos rfl, lenz]; omega
    | false =>
      rw [was] at more
      rw [was, if_neg Bool.false_ne_true] at R3
      refine wpAny_bind (setR_add_hashed (tk := tk) R3 (by omega) fun h4 b4 R4 => wpAny_pure (wpAny_bind (after _ (b3.trans b4) (wpAny_pure ⟨_, _, h4, rfl, cut', b2.trans (b3.trans b4), R4.congr fun j => ?_, ?_⟩))))
      · rw [more j]
        by_cases q : j = k
        · simp [q]
        · simp [q]
      · rw [lenz]
        split <;> omega
  · rintro _ _ ⟨done, c, h2, rfl, cut, b2, R2, le⟩
    rw [List.append_nil] at cut
    refine wpAny_pure (hQ h2 d c b2 (R2.congr fun k => ?_))
    rw [← cut, Bool.eq_iff_iff.mpr ((en.2.2.1 k).trans decide_eq_true_iff.symm)]
    cases T k <;> cases decide (k ∈ es.toList.map keyOf) <;> rfl
  · exact ⟨[], m, h1, rfl, rfl, b1, R1.congr fun k => by cases T k <;> rfl, Nat.le_refl _⟩
open PySem.Builtin.Frozenset in
theorem newFrom_at {id : String} {Q : Value → Shared → Prop} (Rb : SetR w s.heap b T m) (hk : ∀ k, T k = true → 0 ≤ k ∧ k < 8) (hm8 : m ≤ 7)
    (hQ : ∀ h', (∀ x o, s.heap.get? x = some o → h'.get? x = some o) → SetR w h' s.heap.objs.size T m → Q (.ref s.heap.objs.size) { s with heap := h' }) :
    wpAny (model P w) A (newFrom id (.type "set") (.ref b)) Q E s := by
  have lb := Rb.lt
  unfold newFrom
  refine wpAny_bind (newSet_at fun h0 old _ bare => ?_)
  obtain ⟨t, t1, t2, t3, t4, t5⟩ := bare
  have Rb0 : SetR w h0 b T m := Rb.at (old b)
  refine wpAny_bind (wpAny_pure (wpAny_bind (wpAny_holding ?_)))
  unfold updateFrom
  refine wpAny_bind (isAnySet_at (s := { s with heap := h0 }) Rb0 ?_)
  rw [if_pos rfl]
  refine wpAny_bind (wpAny_pure (merge_at (s := { s with heap := h0 }) Rb0 hk hm8 ⟨t, 0, t1, Nat.le_of_eq t2.symm, t3, t4, t5⟩ (Nat.ne_of_gt lb) fun h1 b1 R1 => wpAny_pure (hQ h1 (fun x o z => (b1.2 x (Nat.ne_of_lt (Heap.lt_size z))).trans (old x o z)) R1)))
open PySem.Builtin.Frozenset in
theorem call_xor {Q : Value → Shared → Prop} (Ra : SetR w s.heap a S n) (Rb : SetR w s.heap b T m) (hk : ∀ k, T k = true → 0 ≤ k ∧ k < 8) (hm8 : m ≤ 7) (hn8 : n ≤ 1000)
    (hQ : ∀ (h' : Heap) (d : Drawn) (c : Nat), (∀ x o, s.heap.get? x = some o → h'.get? x = some o) → SetR w h' s.heap.objs.size (fun k => S k != T k) c → Q (.ref s.heap.objs.size) { s with heap := h', drawn := d }) :
    wpAny (model P w) A (binaryOp .BitXor (.ref a) (.ref b)) Q E s := by
  have sa := SetR.typeIs Ra
  have la := Ra.lt
  refine wpAny_binaryOp_same sa (SetR.typeIs Rb) PySem.F.fills_set_xor PySem.F.slot_set_xor (wpAny_call_entry PySem.F.slot_set_xor sa entry_set_xor ?_ (PySem.F.args_set_xor_2 _ _))
  rw [xor_eq]
  refine wpAny_bind (wpAny_pure (wpAny_bind (m := andM _ _) ?_))
  unfold andM
  refine wpAny_bind (isAnySet_at Ra (isAnySet_at Rb ?_))
  refine wpAny_bind (wpAny_pure (wpAny_bind (wpAny_bind (base_at Ra (wpAny_bind (newFrom_at Rb hk hm8 fun h0 old R0 => ?_))))))
  have big : scanBound = 4096 := rfl
  refine wpAny_bind (wpAny_pure (wpAny_bind (wpAny_holding (sdu_at (s := { s with heap := h0 }) R0 (Ra.at (old a)) (Nat.ne_of_gt la) (by omega) fun h1 d c b1 R1 => ?_))))
  exact wpAny_pure (wpAny_pure ⟨_, rfl, Value.noConfusion, hQ h1 d c (fun x o z => (b1.2 x (Nat.ne_of_lt (Heap.lt_size z))).trans (old x o z)) R1⟩)
end
end L3
end
section
namespace L3
open PySem PySem.Spec PyProof.Rows L2
theorem SetR.card {w : World} {h : Heap} {a : Addr} {S : Int → Bool} {n : Nat} (R : SetR w h a S n) {L : List Int} (nd : L.Nodup) (hL : ∀ k, S k = true ↔ k ∈ L) : n = L.length := by
  obtain ⟨_, es, _, _, _, _, _, _, nde, hm, _, _, hn, _⟩ := R
  have p : (es.toList.map keyOf).Perm L := (List.perm_ext_iff_of_nodup nde nd).mpr fun k => (hm k).symm.trans (hL k)
  rw [← p.length_eq, List.length_map, Array.length_toList, hn]
section
variable {X : Cx}
def rSetOfI (K : PySem.W.Frag) (w : World) : List V → Hp → VK → Prop := fun vs H Q => ∃ (l : Addr) (ns : List Int), vs = [.ref l] ∧ SqT K H l (ns.map V.int) ∧ ns.length ≤ 1000 ∧ ∀ (p : Addr) (c : Nat), H p = none → c ≤ ns.length → Q (.ref p) (upd H p (SetO w p (fun j => decide (j ∈ ns)) c))
/-- a set has come that was not there -/
theorem set_came {pins : List (Addr × Obj)} {σ : L2.St} {H : Hp} {s : Shared} {h' : Heap} {d : Drawn} {n c : Nat} {a : Addr} {S : Int → Bool} {Q : VK} (I : Inv X pins σ H s) (keep : ∀ b o, s.heap.get? b = some o → h'.get? b = some o) (le : s.heap.objs.size ≤ a) (R : SetR X.w h' a S c)
    (q : H a = none → Q (.ref a) (upd H a (SetO X.w a S c))) : EP X pins σ Q (.ref a) { s with heap := h', drawn := d, toks := n } := by
  have free := I.hok.fresh le
  refine ⟨.ref a, _, ?_, rfl, q free⟩
  exact I.call (ch := []) (Un.laid keep le free) (I.hok.laid keep le (setO_new R)) I.bare fun _ z => nomatch z
theorem cr_setOfI (hc : X.calm = true) : CallR X (.type "set") (rSetOfI X.K X.w) := by
  rintro pins s σ H _ us Q I r ⟨l, ns, rfl, sq, few, q⟩
  obtain ⟨its, rv, tup, _⟩ := I.tuple sq
  rw [Vals.ref1 r]
  have small : ns.length + 1 < scanBound := Nat.lt_of_le_of_lt (Nat.succ_le_succ few) (by decide)
  exact call_set_tupI ns (I.ok.hd hc) tup (ints_of_vals rv) small fun h' n c R le keep => set_came (d := s.drawn) I keep (Nat.le_refl _) R fun free => q _ _ free le
def rSetAnd (w : World) : R2 := fun x y H Q => ∃ (a b : Addr) (S T : Int → Bool) (n m : Nat), x = .ref a ∧ y = .ref b ∧ a ≠ b ∧ H a = some (SetO w a S n) ∧ H b = some (SetO w b T m) ∧
  ∀ (p : Addr) (c : Nat), H p = none → Q (.ref p) (upd H p (SetO w p (fun k => S k && T k) c))
theorem op_setAnd : OpR X (binaryOp .BitAnd) (rSetAnd X.w) := by
  rintro pins s σ H _ _ v u Q I rx ry ⟨a, b, S, T, n, m, rfl, rfl, ne, at_a, at_b, q⟩
  rw [show v = .ref a from rx, show u = .ref b from ry]
  exact call_and (setO_get I at_a) (setO_get I at_b) ne fun h' d c keep R => set_came I keep (Nat.le_refl _) R (q _ c)
def rSetXor (w : World) : R2 := fun x y H Q => ∃ (a b : Addr) (S T : Int → Bool) (n m : Nat), x = .ref a ∧ y = .ref b ∧ H a = some (SetO w a S n) ∧ H b = some (SetO w b T m) ∧ (∀ k, T k = true → 0 ≤ k ∧ k < 8) ∧ m ≤ 7 ∧ n ≤ 1000 ∧
  ∀ (p : Addr) (c : Nat), H p = none → Q (.ref p) (upd H p (SetO w p (fun k => S k != T k) c))
theorem op_setXor : OpR X (binaryOp .BitXor) (rSetXor X.w) := by
  rintro pins s σ H _ _ v u Q I rx ry ⟨a, b, S, T, n, m, rfl, rfl, at_a, at_b, low, few, many, q⟩
  rw [show v = .ref a from rx, show u = .ref b from ry]
  exact call_xor (setO_get I at_a) (setO_get I at_b) low few many fun h' d c keep R => set_came I keep (Nat.le_refl _) R (q _ c)
def rLenSet (w : World) : List V → Hp → VK → Prop := fun vs H Q => ∃ (a : Addr) (S : Int → Bool) (n : Nat) (L : List Int), vs = [.ref a] ∧ H a = some (SetO w a S n) ∧ L.Nodup ∧ (∀ k, S k = true ↔ k ∈ L) ∧ Q (.int (L.length : Nat)) H
theorem call_lenSet : CallR X (.builtin "len") (rLenSet X.w) := by
  rintro pins s σ H _ us Q I r ⟨a, S, n, L, rfl, at_a, nd, mem, q⟩
  rw [Vals.ref1 r]
  have R := setO_get I at_a
  have many := SetR.card R nd mem
  obtain ⟨o, es, _, _, there, ex, data, _, _, _, small, fit, size, _⟩ := R
  refine call_len_set there ex data fit (by have line : scanBound = 4096 := rfl; omega) ?_
  rw [size, many]
  exact ⟨.int (L.length : Nat), H, I.tok _, ⟨_, rfl⟩, q⟩
end
end L3
end
section
namespace L3
open PySem PySem.Spec PyProof.Rows L2

/-- v is a tuple of the ints ns -/
abbrev IsIT := TS.TupInts
theorem lex_iff : ∀ {a b : List Int}, HT.lexLt a b = true ↔ a < b
  | [], [] => by simp [HT.lexLt]
  | [], y :: ys => by simp [HT.lexLt]
  | x :: xs, [] => by simp [HT.lexLt]
  | x :: xs, y :: ys => by
    rw [HT.lexLt_cons, List.cons_lt_cons_iff]
    by_cases e : x = y
    · rw [if_pos e, lex_iff]
      constructor
      · intro h; exact .inr ⟨e, h⟩
      · rintro (h | ⟨_, h⟩)
        · omega
        · exact h
    · simp only [if_neg e, decide_eq_true_eq]
      constructor
      · intro h; exact .inl h
      · rintro (h | ⟨h, _⟩)
        · exact h
        · exact absurd h e
theorem lex_no {a b : List Int} : HT.lexLt a b = false ↔ b ≤ a := by
  rw [← Bool.not_eq_true, lex_iff, List.not_lt]
theorem swo_lex (k : Value → List Int) : SrtO.Swo fun v u => HT.lexLt (k v) (k u) where
  asym x y h := lex_no.mpr (List.le_of_lt (lex_iff.mp h))
  tr x y z h1 h2 := lex_no.mpr (List.le_trans (lex_no.mp h1) (lex_no.mp h2))
section
variable {prog : Program} {w : World} {A : Around} {E : Value → Shared → Prop} {s : Shared}
/-- ints one by one, until two differ or one row ends -/
theorem lex_walk {b : Bool} {Q : Bool → Shared → Prop} {xs ys : List Value} {ns ms : List Int} (hx : IntsAre xs ns) (hy : IntsAre ys ms) (i : Nat) (q : Q (HT.lexLt ns ms) s) : PySem.W.KatLex prog w A b (decide (xs.length < ys.length)) Q (xs.zip ys) i s := by
  induction hx generalizing ms ys i with
  | nil =>
    cases hy with
    | nil => exact q
    | cons m u _ =>
      show Q (decide (0 < _ + 1)) s
      rw [decide_eq_true (Nat.succ_pos _)]
      exact q
  | cons n t _ ih =>
    cases hy with
    | nil =>
      show Q (decide (_ + 1 < 0)) s
      rw [decide_eq_false (Nat.not_lt_zero _)]
      exact q
    | cons m u more =>
      have step := fun z => ih more (i + 1) z
      rw [HT.lexLt_cons] at q
      have len : ∀ (vs us : List Value), decide ((Value.int n t :: vs).length < (Value.int m u :: us).length) = decide (vs.length < us.length) := fun vs us => decide_eq_decide.mpr Nat.succ_lt_succ_iff
      rw [len]
      refine wpAny_eqBool_int ?_
      by_cases same : n = m
      · rw [if_pos same] at q
        rw [if_pos (beq_iff_eq.mpr same)]
        exact step q
      · rw [if_neg same] at q
        rw [if_neg (fun z => same (beq_iff_eq.mp z))]
        exact TS.oneLt_ints _ q
/-- a way to compare is told by what it says of two tuples of ints -/
theorem cmp_by {κ : SortKind} {vs : List Value} {k : Value → List Int} (hp : ∀ v ∈ vs, IsIT s.heap v (k v)) (one : ∀ (v u : Value) (ns ms : List Int) (Q : Bool → Shared → Prop), IsIT s.heap v ns → IsIT s.heap u ms → Q (HT.lexLt ns ms) s → wpAny (model prog w) A (keyLt' κ v u) Q (fun _ _ => False) s) :
    SrtO.Cmp prog w A s κ (fun p => p.1 ∈ vs) (SrtO.lt2 fun v u => HT.lexLt (k v) (k u)) :=
  fun p q mp mq => one p.1 q.1 _ _ _ (hp _ mp) (hp _ mq) ⟨rfl, rfl⟩
theorem cmp_tuples {vs : List Value} {k : Value → List Int} (hp : ∀ v ∈ vs, IsIT s.heap v (k v)) (b : Bool) : SrtO.Cmp prog w A s (tuples' b) (fun p => p.1 ∈ vs) (SrtO.lt2 fun v u => HT.lexLt (k v) (k u)) :=
  cmp_by hp fun v u ns ms Q hv hu q => by
    obtain ⟨x, xs, rfl, ⟨ox, gx, _, _, dx⟩, ix⟩ := hv
    obtain ⟨y, ys, rfl, ⟨oy, gy, _, _, dy⟩, iy⟩ := hu
    have walk := lex_walk (prog := prog) (w := w) (A := A) (b := b) ix iy 0 q
    rw [Array.length_toList, Array.length_toList] at walk
    exact PySem.W.kat_lt gx dx gy dy walk
theorem lt_IT {v u : Value} {ns ms : List Int} {Q : Value → Shared → Prop} (hv : IsIT s.heap v ns) (hu : IsIT s.heap u ms) (room : A.units < cLine) (q : Q (.bool (HT.lexLt ns ms)) s) : wpAny (model prog w) A (compareOp .Lt v u) Q E s := by
  obtain ⟨x, xs, rfl, tx, ix⟩ := hv
  obtain ⟨y, ys, rfl, ty, iy⟩ := hu
  exact HT.lt_tupInts tx ty ix iy room q
theorem cmp_general {vs : List Value} {k : Value → List Int} (hp : ∀ v ∈ vs, IsIT s.heap v (k v)) (room : A.units < cLine) : SrtO.Cmp prog w A s general' (fun p => p.1 ∈ vs) (SrtO.lt2 fun v u => HT.lexLt (k v) (k u)) :=
  cmp_by hp fun _ _ _ _ _ hv hu q => PySem.W.kat_one _ _ (lt_IT hv hu room q)
theorem lt_slot {v u : Value} {ns ms : List Int} {Q : Value → Shared → Prop} (hv : IsIT s.heap v ns) (hu : IsIT s.heap u ms) (q : Q (.bool (HT.lexLt ns ms)) s) : wpAny (model prog w) A (call (.builtin "tuple.__lt__") [v, u]) Q E s := by
  obtain ⟨x, xs, rfl, ⟨⟨_, dx, _, sx⟩, gx, rfl, nx, rfl⟩, ix⟩ := hv
  obtain ⟨y, ys, rfl, ⟨⟨_, dy, _, sy⟩, gy, rfl, ny, rfl⟩, iy⟩ := hu
  refine call_meets PySem.F.slot_tuple_lt ⟨_, gx, rfl⟩ PySem.F.entry_tuple_lt (PySem.F.args_tuple_lt_2 _ _) (HT.tuple_lt_ints x y xs ys nx ny dx dy sx sy ns ms ix iy) ?_
  exact ⟨gx, gy, q⟩
theorem cmp_one {vs : List Value} {k : Value → List Int} (hp : ∀ v ∈ vs, IsIT s.heap v (k v)) (room : A.units < cLine) : SrtO.Cmp prog w A s oneType' (fun p => p.1 ∈ vs) (SrtO.lt2 fun v u => HT.lexLt (k v) (k u)) :=
  cmp_by hp fun v u ns ms Q hv hu q => by
    have ty : s.TypeIs v "tuple" := by
      obtain ⟨x, _, rfl, ⟨o, g, c, _⟩, _⟩ := hv
      exact ⟨o, g, c⟩
    show wpAny (model prog w) A (oneLt' true v u) Q _ s
    rw [oneLt'_eq, if_pos rfl]
    exact wpAny_bind (wpAny_cRoomFor room (wpAny_bind (wpAny_callSpecialIfBound?_slot ty PySem.F.slot_tuple_lt (lt_slot hv hu (wpAny_truthy_bool q)))))
/-- a tuple is collected as it stands, into a list that was not there -/
theorem collect_tup {l : Addr} {vs : List Value} {Q : List Value → Shared → Prop} (hl : s.heap.IsTuple l vs.toArray) (hz : vs.length ≤ sizeLine)
    (h : ∀ h' : Heap, h'.objs.size = s.heap.objs.size + 1 → (∀ b o, s.heap.get? b = some o → h'.get? b = some o) → Q vs { s with heap := h' }) : wpAny (model prog w) A (collect (.ref l)) Q E s := by
  obtain ⟨o, h1, h2, n, h3⟩ := hl
  unfold collect
  refine wpAny_bind (wpAny_runValue (codeAny_builtin (id := "proto.collect") entry_proto_collect' ?_))
  rw [Around.under_plainId (by decide +kernel)]
  unfold Builtin.«proto.collect»
  dsimp only
  refine wpAny_bind (wpAny_newList (wpAny_pure ⟨by kernel_rfl, codeAny_builtin entry_list_iadd' ?_⟩))
  rw [Around.under_plainId (by decide +kernel)]
  unfold Builtin.«list.__iadd__»
  apply wpAny_bind (wpAny_pure _)
  have new := Heap.get?_push_size s.heap (o := { cls := .type "list", data := .seq #[] }) rfl
  have gives := Heap.get?_update_self (Obj.mapSeq (· ++ vs.toArray)) new rfl
  have kept : Q vs { s with heap := (s.heap.push { cls := .type "list", data := .seq #[] }).update s.heap.objs.size (Obj.mapSeq (· ++ vs.toArray)) } := by
    refine h _ ?_ fun b o e => (Heap.get?_update_other _ _ (Nat.ne_of_gt (Heap.lt_size e))).trans (Heap.get?_push_of_some _ e)
    simp [Heap.update, Heap.push]
  refine wpAny_mono (wpAny_extend_seq s.heap.objs.size l (.ref s.heap.objs.size) 0 (o := o) (n := n) (Or.inr rfl) new (Heap.get?_push_of_some _ h1) h2 h3 (R := fun r s' => r = .ok (.ret (.ref s.heap.objs.size)) ∧ s' = { s with heap := (s.heap.push { cls := .type "list", data := .seq #[] }).update s.heap.objs.size (Obj.mapSeq (· ++ vs.toArray)) }) ⟨rfl, rfl⟩ (hsz := by simpa using hz)) ?_ ?_
  · rintro (f | c) s' hh
    · obtain ⟨e, rfl⟩ := hh
      cases e
      refine wpAny_bind (wpAny_load gives (wpAny_pure ?_))
      simpa using kept
    · refine ⟨hh.1, codeAny_mono hh.2 fun r s' e => ?_⟩
      obtain ⟨rfl, rfl⟩ := e
      refine wpAny_bind (wpAny_load gives (wpAny_pure ?_))
      simpa using kept
  · rintro e s' ⟨z, _⟩
    cases z
open PyProof.Rows in
/-- sorted(v), whatever v is collected from -/
theorem sorted_from {v : Value} {vs : List Value} {ltv : Value → Value → Bool} {Q : Value → Shared → Prop} (O : SrtO.Swo ltv) (hz : vs.length ≤ sizeLine)
    (hc : ∀ (A : Around) (E : Value → Shared → Prop) (Q : List Value → Shared → Prop), (∀ h' : Heap, h'.objs.size = s.heap.objs.size + 1 → (∀ b o, s.heap.get? b = some o → h'.get? b = some o) → Q vs { s with heap := h' }) → wpAny (model prog w) A (collect v) Q E s)
    (hS : 2 ≤ vs.length → ∀ (h' : Heap) (a : Addr), h'.get? a = some (seqObj "list" vs.toArray 0) → (∀ b o, s.heap.get? b = some o → b ≠ a ∧ h'.get? b = some o) → SrtO.SortableO prog w A.in1.in1 { s with heap := h' } a vs ltv)
    (h : ∀ (out : List Value) (h' : Heap) (p : Addr) (e : Nat), SrtO.Srtd ltv out → SrtO.Stb ltv out vs → s.heap.objs.size ≤ p → (∀ b o, s.heap.get? b = some o → h'.get? b = some o) → h'.get? p = some (seqObj "list" out.toArray e) → Q (.ref p) { s with heap := h' }) :
    wpAny (model prog w) A (call (.builtin "sorted") [v]) Q E s := by
  have run : wpAny (model prog w) A.in1 (Builtin.«sorted» ⟨[v], []⟩) (fun fin s' => ∃ r, fin = .done (.ret r) ∧ Q r s') E s := by
    unfold Builtin.«sorted»
    refine wpAny_bind (wpAny_pure (wpAny_bind (hc _ _ _ fun h1 n1 k1 => wpAny_bind (wpAny_newList ?_ (by simpa using hz)))))
    have there := Heap.get?_push_size h1 (o := { cls := .type "list", data := .seq vs.toArray }) rfl
    have lt : s.heap.objs.size < h1.objs.size := by omega
    have keep2 : ∀ b o, s.heap.get? b = some o → b ≠ h1.objs.size ∧ (h1.push { cls := .type "list", data := .seq vs.toArray }).get? b = some o :=
      fun b o e => ⟨Nat.ne_of_lt (Nat.lt_trans (Heap.lt_size e) lt), Heap.get?_push_of_some _ (k1 b o e)⟩
    refine wpAny_bind (wpAny_holding (wpAny_call_entry slot_list_sort ⟨_, there, rfl⟩ entry_list_sort ?_ (PySem.F.args_list_sort_1 _)))
    refine SrtO.list_sort_ord O there hz (fun h2 => hS h2 _ _ there keep2) fun out so st => ⟨_, rfl, wpAny_pure ⟨_, rfl, ?_⟩⟩
    obtain ⟨e, he⟩ := sortedHeap_at (h := h1.push { cls := .type "list", data := .seq vs.toArray }) (vs := vs) (out := out.toArray) there
    exact h out _ _ e so st (Nat.le_of_lt lt) (fun b o z => (sortedHeap_old (keep2 b o z).1 (Heap.lt_size (keep2 b o z).2)).trans (keep2 b o z).2) he
  exact Calls.call_function_entry kind_sorted plain_sorted entry_sorted (args_sorted1 v) run
/-- a list is collected as it stands, too -/
theorem collect_lst {l : Addr} {vs : List Value} {Q : List Value → Shared → Prop} (hl : s.heap.IsList l vs.toArray) (hz : vs.length ≤ sizeLine)
    (h : ∀ h' : Heap, h'.objs.size = s.heap.objs.size + 1 → (∀ b o, s.heap.get? b = some o → h'.get? b = some o) → Q vs { s with heap := h' }) : wpAny (model prog w) A (collect (.ref l)) Q E s := by
  refine collect_list hl (h _ ?_ fun b o e => (Heap.get?_update_other _ _ (Nat.ne_of_gt (Heap.lt_size e))).trans (Heap.get?_push_of_some _ e)) hz
  simp [Heap.update, Heap.push]
end
section
variable {X : Cx} {σ : L2.St} {pins : List (Addr × Obj)} {H : Hp} {s : Shared}
/-- sorted of what stands at a list or a tuple: a new list, whose values are told by its order -/
theorem sorted_inv {a : Addr} {xs : List V} {ltv : Value → Value → Bool} {Q : VK} {E : Value → Shared → Prop} (I : Inv X pins σ H s) (O : SrtO.Swo ltv) (ha : SqL X.K H a xs ∨ SqT X.K H a xs)
    (hS : ∀ its : List Value, Vals xs its → 2 ≤ its.length → ∀ (h' : Heap) (b : Addr), h'.get? b = some (seqObj "list" its.toArray 0) → (∀ c o, s.heap.get? c = some o → c ≠ b ∧ h'.get? c = some o) → SrtO.SortableO X.prog X.w X.A.in1.in1 { s with heap := h' } b its ltv)
    (hv : ∀ its out : List Value, Vals xs its → SrtO.Srtd ltv out → SrtO.Stb ltv out its → ∃ ys, Vals ys out ∧ ∀ p, H p = none → Q (.ref p) (upd H p (.lst ys))) :
    wpAny (model X.prog X.w) X.A (call (.builtin "sorted") [.ref a]) (EP X pins σ Q) E s := by
  obtain ⟨its, rv, few, hc⟩ : ∃ its : List Value, Vals xs its ∧ xs.length ≤ sizeLine ∧ ∀ (A : Around) (E : Value → Shared → Prop) (Q : List Value → Shared → Prop), its.length ≤ sizeLine → (∀ h' : Heap, h'.objs.size = s.heap.objs.size + 1 → (∀ b o, s.heap.get? b = some o → h'.get? b = some o) → Q its { s with heap := h' }) → wpAny (model X.prog X.w) A (collect (.ref a)) Q E s := by
    rcases ha with z | z
    · obtain ⟨its, r, p, few⟩ := I.list z
      exact ⟨its, r, few, fun _ _ _ hz k => collect_lst p.isList hz k⟩
    · obtain ⟨its, r, p, few⟩ := I.tuple z
      exact ⟨its, r, few, fun _ _ _ hz k => collect_tup p hz k⟩
  have hz : its.length ≤ sizeLine := rv.length ▸ few
  refine sorted_from O hz (fun A E Q k => hc A E Q hz k) (hS its rv) fun out h' p e so st le keep there => ?_
  obtain ⟨ys, vy, q⟩ := hv its out rv so st
  have many : ys.length ≤ sizeLine := by
    rw [vy.length, st.len]; exact hz
  exact ⟨.ref p, _, I.laid (o := .lst ys) (t' := s.toks) keep le ⟨many, out, e, vy, there⟩, rfl, q p (I.hok.fresh le)⟩
end
end L3
end
section
namespace L3
open PySem PySem.Spec PyProof.Rows L2
section
variable {prog : Program} {w : World} {A : Around} {E : Value → Shared → Prop} {s : Shared}
/-- the first of a row of ints -/
theorem first_told {xs : Array Value} {ns : List Int} (ix : IntsAre xs.toList ns) : (xs[0]? = none ↔ ns = []) ∧ ∀ u, xs[0]? = some u → ∃ n t, u = Value.int n t := by
  have as_list : xs[0]? = xs.toList[0]? := (Array.getElem?_toList).symm
  rw [as_list]
  generalize xs.toList = l at ix
  cases ix with
  | nil => exact ⟨⟨fun _ => rfl, fun _ => rfl⟩, fun u z => by cases z⟩
  | cons n t _ => exact ⟨⟨fun z => absurd z (by simp), fun z => absurd z (by simp)⟩, fun u z => ⟨n, t, (Option.some.inj z).symm⟩⟩
theorem first_IT {v : Value} {ns : List Int} {Q : Option Value → Shared → Prop} (hv : IsIT s.heap v ns) (h : ∀ f, (f = none ↔ ns = []) → (∀ u, f = some u → ∃ n t, u = Value.int n t) → Q f s) : wpAny (model prog w) A (firstOfTuple' v) Q E s := by
  obtain ⟨x, xs, rfl, ⟨o, there, cls, _, data⟩, ix⟩ := hv
  rw [PySem.W.kas_first_eq]
  refine wpAny_bind (wpAny_typeOf (T := "tuple") ⟨o, there, cls⟩ ?_)
  rw [if_neg (by decide)]
  exact wpAny_bind (listItems_at there data (wpAny_pure (h _ (first_told ix).1 (first_told ix).2)))
/-- what firstOfTuple' says of each -/
def Firsts (k : Value → List Int) : List Value → List (Option Value) → Prop
  | [], [] => True
  | v :: vs, f :: fs => (f = none ↔ k v = []) ∧ (∀ u, f = some u → ∃ n t, u = Value.int n t) ∧ Firsts k vs fs
  | _, _ => False
theorem firsts_IT {k : Value → List Int} : ∀ (vs : List Value) {Q : List (Option Value) → Shared → Prop}, (∀ v ∈ vs, IsIT s.heap v (k v)) → (∀ fs, Firsts k vs fs → Q fs s) → wpAny (model prog w) A (vs.mapM firstOfTuple') Q E s
  | [], Q, _, h => by rw [List.mapM_nil]; exact wpAny_pure (h [] trivial)
  | v :: vs, Q, hp, h => by
    rw [List.mapM_cons]
    refine wpAny_bind (first_IT (hp v List.mem_cons_self) fun f e1 e2 => ?_)
    exact wpAny_bind (firsts_IT vs (fun u hu => hp u (List.mem_cons_of_mem _ hu)) fun fs hf => wpAny_pure (h (f :: fs) ⟨e1, e2, hf⟩))
theorem firsts_all {k : Value → List Int} : ∀ {vs : List Value} {fs : List (Option Value)}, Firsts k vs fs → fs.all (·.isSome) = true → ∀ u ∈ fs.filterMap id, ∃ n t, u = Value.int n t
  | [], [], _, _, u, hu => by simp at hu
  | v :: vs, f :: fs, ⟨e1, e2, hf⟩, ha, u, hu => by
    have ha := (Bool.and_eq_true _ _).mp (List.all_cons ▸ ha)
    cases f with
    | none => simp at ha
    | some x =>
      rw [List.filterMap_cons] at hu
      rcases List.mem_cons.mp (show u ∈ x :: fs.filterMap id from hu) with e | e
      · subst e; exact e2 _ rfl
      · exact firsts_all hf ha.2 u e
theorem types_IT {k : Value → List Int} : ∀ (vs : List Value) {Q : List Value → Shared → Prop}, (∀ v ∈ vs, IsIT s.heap v (k v)) → Q (vs.map fun _ => Value.type "tuple") s → wpAny (model prog w) A (vs.mapM typeOf) Q E s := by
  intro vs Q hp h
  refine PySem.W.kas_mapM (r := Value.type "tuple") _ (fun v hv Q' hq => ?_) h
  obtain ⟨x, _, rfl, ⟨o, there, cls, _⟩, _⟩ := hp v hv
  exact wpAny_typeOf ⟨o, there, cls⟩ hq
theorem types_int : ∀ (vs : List Value) {Q : List Value → Shared → Prop}, (∀ v ∈ vs, ∃ n t, v = Value.int n t) → Q (vs.map fun _ => Value.type "int") s → wpAny (model prog w) A (vs.mapM typeOf) Q E s := by
  intro vs Q hp h
  refine PySem.W.kas_mapM (r := Value.type "int") _ (fun v hv Q' hq => ?_) h
  obtain ⟨n, t, rfl⟩ := hp v hv
  exact wpAny_typeOf (typeIs_int s n t) hq
theorem firsts_len {k : Value → List Int} : ∀ {vs : List Value} {fs : List (Option Value)}, Firsts k vs fs → fs.length = vs.length
  | [], [], _ => rfl
  | _ :: _, _ :: _, h => by rw [List.length_cons, List.length_cons, firsts_len h.2.2]
theorem firsts_some {k : Value → List Int} : ∀ {vs : List Value} {fs : List (Option Value)}, Firsts k vs fs → (∀ v ∈ vs, k v ≠ []) → fs.all (·.isSome) = true
  | [], [], _, _ => rfl
  | v :: vs, f :: fs, ⟨e1, e2, hf⟩, h => by
    rw [List.all_cons, firsts_some hf fun v m => h v (List.mem_cons_of_mem _ m), Bool.and_true]
    cases f with
    | none => exact absurd (e1.mp rfl) (h v List.mem_cons_self)
    | some x => rfl
theorem firsts_none {k : Value → List Int} : ∀ {vs : List Value} {fs : List (Option Value)}, Firsts k vs fs → (∃ v ∈ vs, k v = []) → fs.all (·.isSome) = false
  | [], [], _, ⟨v, h, _⟩ => by cases h
  | v :: vs, f :: fs, ⟨e1, e2, hf⟩, ⟨u, hu, e⟩ => by
    rw [List.all_cons]
    rcases List.mem_cons.mp hu with q | q
    · subst q
      rw [e1.mpr e]; rfl
    · rw [firsts_none hf ⟨u, q, e⟩, Bool.and_false]
/-- an array's elements are asked in their order -/
theorem ask_each {α β : Type} {f : α → Sem β} {vs : List α} {Q : Array β → Shared → Prop} (h : wpAny (model prog w) A (vs.mapM f) (fun l s' => Q l.toArray s') E s) : wpAny (model prog w) A (vs.toArray.mapM f) Q E s := by
  rw [List.mapM_toArray]
  exact wpAny_map h
theorem one_type {T : Value} {vs : List Value} {Q : Option Value → Shared → Prop} (hne : vs ≠ []) (refl : (T == T) = true) (ht : ∀ {Q : List Value → Shared → Prop}, Q (vs.map fun _ => T) s → wpAny (model prog w) A (vs.mapM typeOf) Q E s) (h : Q (some T) s) : wpAny (model prog w) A (oneTypeOnly' vs.toArray) Q E s := by
  rw [oneTypeOnly'_eq]
  refine wpAny_bind (ask_each (ht ?_))
  cases vs with
  | nil => exact absurd rfl hne
  | cons v vs =>
    have alike : (((v :: vs).map fun _ => T).toArray.all (· == T)) = true := by
      refine Array.all_toList ▸ List.all_eq_true.mpr fun x hx => ?_
      obtain ⟨y, _, rfl⟩ := List.mem_map.mp hx
      exact refl
    show wpAny (model prog w) A (pure (if (((v :: vs).map fun _ => T).toArray.all (· == T)) = true then some T else none)) Q E s
    rw [if_pos alike]
    exact wpAny_pure h
/-- the way in which tuples of ints are compared when they are sorted is one of three -/
theorem kind_IT {k : Value → List Int} {vs : List Value} (h2 : 2 ≤ vs.length) (hp : ∀ v ∈ vs, IsIT s.heap v (k v)) : ∃ κ, (κ = tuples' true ∨ κ = general' ∨ κ = oneType') ∧
    ∀ (Q : SortKind → Shared → Prop) (E : Value → Shared → Prop), Q κ s → wpAny (model prog w) A (keyKind' vs.toArray) Q E s := by
  by_cases full : ∀ v ∈ vs, k v ≠ []
  · refine ⟨tuples' true, Or.inl rfl, fun Q E q => ?_⟩
    rw [keyKind'_eq]
    refine wpAny_bind (ask_each (firsts_IT vs hp fun fs hf => ?_))
    have all : fs.all (·.isSome) = true := firsts_some hf full
    rw [if_pos (by simpa using all)]
    have whole := firsts_all hf all
    have kept : fs.toArray.filterMap id = (fs.filterMap id).toArray := by simp
    rw [kept]
    have some_left : fs.filterMap id ≠ [] := by
      cases fs with
      | nil => have := firsts_len hf; simp at this; omega
      | cons f fs =>
        rw [List.all_cons, Bool.and_eq_true] at all
        obtain ⟨x, hx⟩ := Option.isSome_iff_exists.mp all.1
        simp [hx]
    exact wpAny_bind (wpAny_rule (wpAny_bind (one_type some_left (by decide) (types_int _ whole) (wpAny_pure q))))
  · have gap : ∃ v ∈ vs, k v = [] := by
      refine Classical.byContradiction fun no => full fun v hv e => no ⟨v, hv, e⟩
    cases vs with
    | nil => simp at h2
    | cons v vs =>
      by_cases first : k v = []
      · refine ⟨oneType', Or.inr (Or.inr rfl), fun Q E q => ?_⟩
        rw [keyKind'_eq]
        refine wpAny_bind (ask_each (firsts_IT _ hp fun fs hf => ?_))
        rw [if_neg (by simpa using firsts_none hf gap)]
        cases fs with
        | nil => exact absurd (firsts_len hf) (by simp)
        | cons f fs =>
          have f0 : f = none := hf.1.mpr first
          rw [if_neg (by simp [f0])]
          refine wpAny_bind (one_type (List.cons_ne_nil _ _) (by decide) (types_IT _ hp) (wpAny_pure ?_))
          exact q
      · refine ⟨general', Or.inr (Or.inl rfl), fun Q E q => ?_⟩
        rw [keyKind'_eq]
        refine wpAny_bind (ask_each (firsts_IT _ hp fun fs hf => ?_))
        rw [if_neg (by simpa using firsts_none hf gap)]
        cases fs with
        | nil => exact absurd (firsts_len hf) (by simp)
        | cons f fs =>
          obtain ⟨x, hx⟩ := Option.isSome_iff_exists.mp (Option.isSome_iff_ne_none.mpr fun z => first (hf.1.mp z))
          rw [if_pos (by simp [hx])]
          exact wpAny_pure q
theorem lots_sortableO {a : Addr} {vs : List Value} {k : Value → List Int} (h2 : 2 ≤ vs.length) (hp : ∀ v ∈ vs, IsIT s.heap v (k v)) (hu : A.units < cLine) (ha : ∀ o, s.heap.get? a = some o → o.cls ≠ .type "tuple") : SrtO.SortableO prog w A s a vs fun v u => HT.lexLt (k v) (k u) := by
  intro h' keep
  have hp' : ∀ v ∈ vs, IsIT h' v (k v) := fun v hm => (hp v hm).keeps fun b o e c => keep b o (fun z => by subst z; exact ha o e c) e
  obtain ⟨κ, hκ, hk⟩ := kind_IT (prog := prog) (w := w) (A := A) (s := { s with heap := h' }) h2 hp'
  refine ⟨κ, hk, ?_⟩
  rcases hκ with e | e | e
  · subst e; exact cmp_tuples hp' true
  · subst e; exact cmp_general hp' hu
  · subst e; exact cmp_one hp' hu
end
section
variable {X : Cx}
/-- a tuple of the ints ns at the value x -/
abbrev TupN := L2.TupI
theorem tupN_IT {pins : List (Addr × Obj)} {σ : L2.St} {H : Hp} {s : Shared} {x : V} {v : Value} {ns : List Int} (I : Inv X pins σ H s) (h : TupN X.K H x ns) (r : RelV x v) : IsIT s.heap v ns := by
  obtain ⟨b, rfl, sq⟩ := h
  exact (show v = .ref b from r) ▸ tupI_raw I sq
/-- sorted(xs) of lots, any number of them -/
def rSortLots (K : PySem.W.Frag) : List V → Hp → VK → Prop := fun vs H Q => ∃ (a : Addr) (xs : List V) (k : V → List Int), vs = [V.ref a] ∧ SqL K H a xs ∧ (∀ x ∈ xs, TupN K H x (k x)) ∧
  ∀ (ys : List V) (p : Addr), ys.Perm xs → ys.Pairwise (fun x y => k x ≤ k y) → H p = none → Q (.ref p) (upd H p (.lst ys))
theorem cr_sortLots (hu : X.A.units + 64 < cLine) : CallR X (.builtin "sorted") (rSortLots X.K) := by
  intro pins s σ H vs us Q I r ⟨a, xs, k, e, hl, hx, q⟩
  subst e
  rw [Vals.ref1 r]
  -- the values told by their words
  have words : ∀ its : List Value, Vals xs its → xs = its.map bkV ∧ ∀ v ∈ its, IsIT s.heap v (k (bkV v)) := by
    intro its rv
    obtain ⟨e, refs⟩ := bkV_refs rv fun x h => by
      obtain ⟨t, z, _⟩ := hx x h
      exact ⟨t, z⟩
    refine ⟨e, fun v hv => ?_⟩
    obtain ⟨b, rfl⟩ := refs v hv
    exact tupN_IT I (hx _ (by rw [e]; exact List.mem_map.mpr ⟨_, hv, rfl⟩)) rfl
  refine sorted_inv (ltv := fun v u => HT.lexLt (k (bkV v)) (k (bkV u))) I (swo_lex _) (Or.inl hl) (fun its rv h2 h' b new keep => ?_) fun its out rv so st => ?_
  · refine lots_sortableO (k := fun v => k (bkV v)) h2 (fun v hv => ((words its rv).2 v hv).keeps fun c o e _ => (keep c o e).2) (by simp only [Around.in1]; omega) fun o ho => ?_
    rw [new] at ho
    cases ho
    exact fun z => absurd (Value.type.inj z) (by decide)
  · obtain ⟨e, is⟩ := words its rv
    refine ⟨out.map bkV, bkV_vals fun u hu => ?_, fun p hp => q (out.map bkV) p (e ▸ st.perm.map bkV) ?_ hp⟩
    · obtain ⟨b, _, z, _⟩ := is u (st.perm.mem_iff.mp hu)
      exact ⟨b, z⟩
    · rw [List.pairwise_map]
      exact so.imp fun z => lex_no.mp z
end
end L3
end
section
namespace L3
open PySem PySem.Spec PyProof.Rows L2
section
variable {X : Cx} {pins : List (Addr × Obj)} {σ : L2.St} {H : Hp} {s : Shared} {E : Value → Shared → Prop}
/-- one more row in a dict of lots; nothing else of the heap moves -/
theorem put_lot {D b : Addr} {kvs : List (List Key × V)} {k : List Key} {v : V} {r : Value} {Q : Unit → Shared → Prop} (hu : X.A.units < cLine) (I : Inv X pins σ H s) (hD : H D = some (.dT kvs)) (hz : kvs.length < sizeLine) (hb : H b = some (.tup (k.map kV))) (rv : RelV v r)
    (h : ∀ h' n, Heap.SameBut D s.heap h' → Inv X pins σ (upd H D (.dT (putK kvs k v))) { s with heap := h', toks := n } → Q () { s with heap := h', toks := n }) : wpAny (model X.prog X.w) X.A (dictSet D (.ref b) r) Q E s := by
  obtain ⟨_, nsys, rows, paired, dict⟩ := dt_of I.hok hD
  have few : rows.length ≤ sizeLine := by
    rw [← paired.length]
    exact Nat.le_of_lt hz
  refine wpAny_dictSet_heap hu (key_of I.hok hb) dict (hsz := few) fun h' after same => h h' _ same (d_write I (by rw [hD]; trivial) same ?_ ?_)
  · obtain ⟨o, _, _, there, _⟩ := after
    exact ⟨o, there⟩
  · have more : (putK kvs k v).length ≤ sizeLine := Nat.le_trans (length_putK kvs k v) hz
    obtain ⟨o, es, ep, a1, a2, a3, a4, _, a5⟩ := after
    refine ⟨more, nsys, _, (paired.put k hb rv).keeps fun c ys e => ?_, o, es, ep, a1, a2, a3, a4, a5⟩
    rw [upd_ne (ne_of e hD (fun z => HO.noConfusion z))]
    exact e
end
/-- the dict behind the first lots -/
def dLots (c : V) (ks : List (List Key)) : List (List Key × V) := ks.foldl (fun m k => putK m k c) []
theorem dLots_snoc (c : V) (ks : List (List Key)) (k : List Key) : dLots c (ks ++ [k]) = putK (dLots c ks) k c := by unfold dLots; rw [List.foldl_append]; rfl
theorem dLots_len (c : V) (ks : List (List Key)) : (dLots c ks).length ≤ ks.length := by
  have go : ∀ (l : List (List Key)) (m : List (List Key × V)), (l.foldl (fun m k => putK m k c) m).length ≤ m.length + l.length := by
    intro l
    induction l with
    | nil => intro m; exact Nat.le_refl _
    | cons k l ih =>
      intro m
      have := ih (putK m k c)
      have := length_putK m k c
      rw [List.length_cons, List.foldl_cons]
      omega
  have := go ks []
  simpa [dLots] using this
/-- xs are tracked tuples with the keys ks -/
def KeysAt (H : Hp) (xs : List V) (ks : List (List Key)) : Prop := xs.length = ks.length ∧ ∀ (i : Nat) (x : V), xs[i]? = some x → ∃ (b : Addr) (k : List Key), x = .ref b ∧ ks[i]? = some k ∧ H b = some (.tup (k.map kV))
/-- {x: c for x in t}, t a tuple of lots -/
def tDLots (K : PySem.W.Frag) (tl : TE) (c : V) : TE := fun σ H Q => tl σ H fun x H1 => ∃ (a : Addr) (xs : List V) (ks : List (List Key)), x = .ref a ∧ SqT K H1 a xs ∧ KeysAt H1 xs ks ∧ xs.length < sizeLine ∧ ∀ D, H1 D = none → Q (.ref D) (upd H1 D (.dT (dLots c ks)))
/-- a local name of a comprehension is local in its own names, too -/
theorem relabel_local {sc : Scope} {env : Env} {x : Str} (hx : sc.names.lookup x = some .local) : (relabel sc env).names.lookup x = some .local := by
  have go : ∀ l : List (Str × NameKind), l.lookup x = some .local → (l.map fun (n, k) => if (k == .free && env.scope.kind == .function && env.kindOf n == some .cell) then (n, .cell) else (n, k)).lookup x = some .local := by
    intro l
    induction l with
    | nil => intro h; cases h
    | cons p l ih =>
      obtain ⟨n, k⟩ := p
      intro h
      rw [List.lookup_cons] at h
      cases same : (x == n) with
      | true =>
        rw [same] at h
        have kl : k = .local := Option.some.inj h
        subst kl
        show List.lookup x ((n, NameKind.local) :: _) = _
        rw [List.lookup_cons, same]
      | false =>
        rw [same] at h
        have h' := ih h
        rw [List.map_cons]
        dsimp only
        split
        · rw [List.lookup_cons, same]; exact h'
        · rw [List.lookup_cons, same]; exact h'
  exact go sc.names hx
section
variable {X : Cx}
theorem pe_dLots {x : Str} {bb : Bool} {j : Nat} {iter : Expr} {scope : Scope} {p0 p1 p2 pos : Pos} {tl : TE} {own : List (Str × Nat)} (hc : X.calm = true) (hu : X.A.units < cLine) (ok : BlkOk X.N X.env.scope scope own) (he : PE X iter tl)
    (hcell : ∀ y ∈ scope.names, y.2 ≠ .cell := by decide) (hx : scope.names.lookup x = some .local := by rfl) (hdbg : (x == ("__debug__" : Str)) = false := by decide) (hs : ∀ y, foldedSetIterable iter X.env y = pure y := by intro _; rfl) :
    PE X (.DictComp (.Name x p1) (.Constant (.bool bb) j p2) [⟨.Name x p0, iter, [], 0⟩] scope pos) (tDLots X.K tl (.bl bb)) := by
  constructor
  intro pins s σ H Q I h
  have frees : ∀ y ∈ scope.names, y.2 = .free → ∃ c, X.env.cells.lookup y.1 = some c := fun y m z => I.ok.has _ (ok.free y m z)
  refine DictComp_goes (closure_ok frees) hcell ok.kind (fun y m z => (ok.uniq y m).trans (congrArg some z)) ?_ hs
  refine thn (he.run pins s σ H _ I h) fun v s1 came => ?_
  obtain ⟨x0, H1, I1, r, t, xs, ks, rfl, hq, ⟨many, keys⟩, few, q⟩ := came
  obtain rfl : v = .ref t := r
  obtain ⟨its, rv, tup, _⟩ := I1.tuple hq
  have li : its.length = ks.length := rv.length.symm.trans many
  refine wpAny_pyIter_tuple tup ?_
  obtain ⟨N, hN⟩ : ∃ N, N = s1.heap.objs.size := ⟨_, rfl⟩
  rw [← hN]
  have it_new : (s1.heap.push { cls := .type "tuple_iterator", data := .fields #[.ref t, .int 0 0] }).get? N = some _ := hN ▸ Heap.get?_push_size s1.heap rfl
  have above : (s1.heap.push { cls := .type "tuple_iterator", data := .fields #[.ref t, .int 0 0] }).objs.size = N + 1 := by rw [hN]; simp [Heap.push]
  have tN : t ≠ N := by
    obtain ⟨o, ho, _⟩ := tup
    exact hN ▸ Nat.ne_of_lt (Heap.lt_size ho)
  refine ⟨N, [N, t], [N], its.toArray.size, _, _, rfl, Goes.tuple (I1.ok.hd hc) N t tN its.toArray, ⟨⟨_, it_new, rfl, rfl⟩, ?_⟩, fun D C s3 begun empty => ?_⟩
  · obtain ⟨o, ho, oc, od⟩ := tup
    exact ⟨o, Heap.get?_push_of_some _ ho, oc, od⟩
  obtain ⟨⟨h3, n3, rfl⟩, old, newD, newC, DC, names⟩ := begun
  dsimp only at old newD newC names empty
  rw [above] at newD newC
  have size_le : s1.heap.objs.size ≤ D ∧ s1.heap.objs.size ≤ C ∧ N ≠ D ∧ N ≠ C := ⟨by omega, by omega, Nat.ne_of_lt newD, Nat.ne_of_lt newC⟩
  have free : H1 D = none := I1.hok.fresh size_le.1
  have outside : ∀ (m : List (List Key × V)) (b : Addr), b = N ∨ b = C → FpOk X pins (upd H1 D (.dT m)) b := by
    intro m b hb
    have le : s1.heap.objs.size ≤ b ∧ b ≠ D := hb.elim (fun e => e ▸ ⟨Nat.le_of_eq hN.symm, size_le.2.2.1⟩) fun e => e ▸ ⟨size_le.2.1, DC.symm⟩
    exact I1.fpOk le.1 (by rw [upd_ne le.2]; exact I1.hok.fresh le.1)
  have start : Inv X pins σ (upd H1 D (.dT [])) { s1 with heap := h3, toks := n3 } := by
    refine I1.laid (fun b u e => old b u (Heap.get?_push_of_some _ e)) size_le.1 ⟨Nat.zero_le _, ?_, [], .nil, _, #[], 0, empty, ⟨rfl, rfl, rfl⟩, rfl, rfl, List.nodup_nil⟩
    have big := I1.big
    exact beq_false_of_ne (Nat.ne_of_gt (Nat.lt_of_lt_of_le big size_le.1))
  refine ⟨fun i s' => Inv X pins σ (upd H1 D (.dT (dLots (.bl bb) (ks.take i)))) s' ∧ ∃ m, s'.heap.Ns C m, ⟨start, _, names⟩, ?_, ?_, ?_⟩
  · rintro i s' h' n ⟨J, m, ns⟩ keep _
    refine ⟨J.turnedL (ch := [N]) keep fun b hb => outside _ b (Or.inl (List.mem_singleton.mp hb)), m, ns.at fun o e => keep C o ?_ e⟩
    exact fun hb => size_le.2.2.2 (List.mem_singleton.mp hb).symm
  · rintro i v s4 lt yi st ⟨J, m, ns⟩
    have lt' : i < xs.length := by rw [rv.length]; simpa using lt
    obtain ⟨b, k, xe, ke, hb⟩ := keys i xs[i] (List.getElem?_eq_getElem lt')
    obtain ⟨u, ui, ru⟩ := rv.get (List.getElem?_eq_getElem lt')
    have vb : v = .ref b := by
      have : its.toArray[i]? = some u := by simpa using ui
      rw [xe] at ru
      exact (Option.some.inj (yi.symm.trans this)).trans ru
    subst vb
    have loc : (compEnvC scope (cloFrom X.env.cells scope.names []) C X.env).kindOf x = some .local := relabel_local hx
    have fn : (compEnvC scope (cloFrom X.env.cells scope.names []) C X.env).scope.kind = .function := ok.kind
    refine wpAny_assign_Name (wpAny_storeName_local loc ns (hp := by rw [fn]; rfl) fun h4 ns4 same4 => ?_)
    have J4 : ∀ n, Inv X pins σ (upd H1 D (.dT (dLots (.bl bb) (ks.take i)))) { s4 with heap := h4, toks := n } := fun n =>
      J.turnedL (t' := n) (ch := [C]) (fun c o hc e => (same4.2 c fun z => hc (List.mem_singleton.mpr z)).trans e) fun c hc => outside _ c (Or.inr (List.mem_singleton.mp hc))
    refine wpAny_pure ?_
    rw [if_pos rfl]
    refine wpAny_Name (wpAny_loadName_local fn loc ns4 (if_pos rfl) (wpAny_Constant_bool ?_)) hdbg
    have rows_few : (dLots (.bl bb) (ks.take i)).length < sizeLine := by
      have := dLots_len (.bl bb) (ks.take i)
      rw [List.length_take] at this
      omega
    have stays : (upd H1 D (.dT (dLots (.bl bb) (ks.take i)))) b = some (.tup (k.map kV)) := by
      rw [upd_ne fun z => by rw [z, free] at hb; cases hb]
      exact hb
    refine put_lot (v := .bl bb) hu (J4 _) upd_same rows_few stays rfl fun h5 n same5 J5 => ⟨⟨?_, _, ns4.sameBut same5 DC.symm⟩, ?_⟩
    · rw [upd_upd, ← dLots_snoc] at J5
      rw [List.take_add_one, ke]
      exact J5
    · obtain ⟨⟨oN, gN, cN, dN⟩, oT, gT, cT, dT⟩ := st
      have t_low : t < N := hN ▸ (tup.elim fun o z => Heap.lt_size z.1)
      have tC : t ≠ C := Nat.ne_of_lt (Nat.lt_trans t_low newC)
      have tD : t ≠ D := Nat.ne_of_lt (Nat.lt_trans t_low newD)
      exact ⟨⟨oN, (same5.2 N size_le.2.2.1).trans ((same4.2 N size_le.2.2.2).trans gN), cN, dN⟩, oT, (same5.2 t tD).trans ((same4.2 t tC).trans gT), cT, dT⟩
  · rintro s' ⟨J, m, ns⟩
    refine ⟨m, ns, fun h' same => ⟨.ref D, upd H1 D (.dT (dLots (.bl bb) ks)), ?_, rfl, q D free⟩⟩
    have all : ks.take its.toArray.size = ks := List.take_of_length_le (by simp [li])
    rw [all] at J
    exact J.turnedL (t' := s'.toks) (ch := [C]) (fun b o hb e => (same.2 b fun z => hb (List.mem_singleton.mpr z)).trans e) fun b hb => outside _ b (Or.inr (List.mem_singleton.mp hb))
end
end L3
end
section
namespace L3
open PySem PySem.Spec PyProof.Rows L2
section
variable {P : Program} {w : World} {A : Around} {s : Shared} {E : Value → Shared → Prop}
/-- sorted(v), when what is collected comes in some order -/
theorem sorted_anyhow {v : Value} {ltv : Value → Value → Bool} {Good : List Value → Prop} {Q : Value → Shared → Prop} (O : SrtO.Swo ltv) (hz : ∀ vs, Good vs → vs.length ≤ sizeLine)
    (hc : ∀ (E : Value → Shared → Prop) (Q : List Value → Shared → Prop), (∀ (s' : Shared) (vs : List Value), (∀ b o, s.heap.get? b = some o → s'.heap.get? b = some o) → s.heap.objs.size ≤ s'.heap.objs.size → s'.gens = s.gens → s'.os = s.os → Good vs → Q vs s') → wpAny (model P w) A.in1 (collect v) Q E s)
    (hS : ∀ vs, Good vs → 2 ≤ vs.length → ∀ (s' : Shared) (a : Addr), s'.heap.get? a = some (seqObj "list" vs.toArray 0) → (∀ b o, s.heap.get? b = some o → b ≠ a ∧ s'.heap.get? b = some o) → SrtO.SortableO P w A.in1.in1 s' a vs ltv)
    (h : ∀ (vs out : List Value) (s' : Shared) (p : Addr) (e : Nat), Good vs → SrtO.Srtd ltv out → SrtO.Stb ltv out vs → s.heap.objs.size ≤ p → (∀ b o, s.heap.get? b = some o → s'.heap.get? b = some o) → s'.gens = s.gens → s'.os = s.os → s'.heap.get? p = some (seqObj "list" out.toArray e) → Q (.ref p) s') :
    wpAny (model P w) A (call (.builtin "sorted") [v]) Q E s := by
  refine Calls.call_function_entry (id := "sorted") kind_sorted plain_sorted entry_sorted (args_sorted1 v) ?_
  show wpAny (model P w) A.in1 (Builtin.«sorted» ⟨[v], []⟩) _ E s
  unfold Builtin.«sorted»
  refine wpAny_bind (wpAny_pure (wpAny_bind (hc _ _ fun s1 vs k1 le1 g1 o1 good => wpAny_bind (wpAny_newList ?_ (by simpa using hz vs good)))))
  have there := Heap.get?_push_size s1.heap (o := { cls := .type "list", data := .seq vs.toArray }) rfl
  have apart : ∀ b o, s.heap.get? b = some o → b ≠ s1.heap.objs.size ∧ (s1.heap.push { cls := .type "list", data := .seq vs.toArray }).get? b = some o :=
    fun b o e => ⟨Nat.ne_of_lt (Nat.lt_of_lt_of_le (Heap.lt_size e) le1), Heap.get?_push_of_some _ (k1 b o e)⟩
  refine wpAny_bind (wpAny_holding (wpAny_call_entry slot_list_sort ⟨_, there, rfl⟩ entry_list_sort ?_ (PySem.F.args_list_sort_1 _)))
  refine SrtO.list_sort_ord O there (hz vs good) (fun two => hS vs good two _ _ there apart) fun out so st => ⟨_, rfl, wpAny_pure ⟨_, rfl, ?_⟩⟩
  obtain ⟨e, he⟩ := sortedHeap_at (h := s1.heap.push { cls := .type "list", data := .seq vs.toArray }) (vs := vs) (out := out.toArray) there
  exact h vs out _ _ e good so st le1 (fun b o z => (sortedHeap_old (apart b o z).1 (Heap.lt_size (apart b o z).2)).trans (apart b o z).2) g1 o1 he
end
section
variable {X : Cx}
/-- sorted(set), a set of lots -/
def rSortSetL (K : PySem.W.Frag) (P : Program) (w : World) : List V → Hp → VK → Prop := fun vs H Q => ∃ (a : Addr) (L : List (Addr × List Int)), vs = [V.ref a] ∧ H a = some (SetTO P w a L) ∧ (∀ p ∈ L, SqT K H p.1 (p.2.map V.int)) ∧
  ∀ (L' : List (Addr × List Int)) (p : Addr), L'.Perm L → (L'.map (·.2)).Nodup → L'.length < 64 → L'.Pairwise (fun q r => q.2 ≤ r.2) → H p = none → Q (.ref p) (upd H p (.lst (L'.map fun q => V.ref q.1)))
theorem perm_lift {α β : Type} (f : α → β) {out l : List β} (p : out.Perm l) : ∀ L : List α, l = L.map f → ∃ L' : List α, L'.Perm L ∧ out = L'.map f := by
  induction p with
  | nil =>
    intro L e
    exact ⟨[], by rw [List.map_eq_nil_iff.mp e.symm], rfl⟩
  | cons x _ ih =>
    intro L e
    cases L with
    | nil => cases e
    | cons y L =>
      obtain ⟨e1, e2⟩ := List.cons.inj e
      obtain ⟨L', p', rfl⟩ := ih L e2
      exact ⟨y :: L', p'.cons y, by rw [e1]; rfl⟩
  | swap x y l =>
    intro L e
    match L, e with
    | u :: v :: L, e =>
      obtain ⟨e1, e⟩ := List.cons.inj e
      obtain ⟨e2, e3⟩ := List.cons.inj e
      exact ⟨v :: u :: L, List.Perm.swap u v L, by rw [e1, e2, e3]; rfl⟩
  | trans _ _ ih1 ih2 =>
    intro L e
    obtain ⟨L2, p2, e2⟩ := ih2 L e
    obtain ⟨L1, p1, e1⟩ := ih1 L2 e2
    exact ⟨L1, p1.trans p2, e1⟩
theorem cr_sortSetL (hc : X.calm = true) (hu : X.A.units + 64 < cLine) : CallR X (.builtin "sorted") (rSortSetL X.K X.prog X.w) := by
  rintro pins s σ H _ us Q I r ⟨a, L, rfl, at_a, lots, q⟩
  rw [Vals.ref1 r]
  obtain ⟨es, ep, t, T⟩ : ∃ es ep t, SetTR X.prog X.w s.heap a L es ep t := SetT0.full (I.hok a _ at_a).1 fun p hp => I.isT (lots p hp)
  obtain ⟨o, there, ex, data⟩ := T.ob
  have rows : es.toList.map (·.2) = L.map fun p => Value.ref p.1 := by rw [T.rows]; unfold rowsOf; rw [List.map_map]; rfl
  have small : L.length < 64 := T.few
  -- each of the set's tuples, and the lot that it is
  have told : ∀ p ∈ L, IsIT s.heap (.ref p.1) p.2 := fun p hp => tupInts_of (T.tup p hp)
  have told2 : ∀ v ∈ L.map (fun p => Value.ref p.1), IsIT s.heap v (TS.intsOf s.heap v) := fun v hv => by
    obtain ⟨p, hp, rfl⟩ := List.mem_map.mp hv
    rw [TS.TupInts.ints (told p hp)]
    exact told p hp
  refine sorted_anyhow (ltv := fun v u => HT.lexLt (TS.intsOf s.heap v) (TS.intsOf s.heap u)) (Good := fun vs => vs.Perm (L.map fun p => Value.ref p.1)) (swo_lex _) (fun vs g => ?_) (fun E' Q' k => ?_) (fun vs g two s' b new keep => ?_) fun vs out s' p e g so st le keep gs os new => ?_
  · rw [g.length_eq, List.length_map]
    exact Nat.le_trans (Nat.le_of_lt small) (by decide)
  · exact collect_set (I.ok.hd hc) ⟨o, there, ex.1, data⟩ T.fits (by rw [T.size]; exact Nat.lt_trans small (by decide)) T.tab.ris T.led fun s' vs keep le gs os perm => k s' vs keep le gs os (rows ▸ perm)
  · refine lots_sortableO (k := TS.intsOf s.heap) two (fun v hv => (told2 v (g.mem_iff.mp hv)).keeps fun c o e _ => (keep c o e).2) (by simp only [Around.in1]; omega) fun o ho => ?_
    rw [new] at ho
    cases ho
    exact fun z => absurd (Value.type.inj z) (by decide)
  · obtain ⟨L', p', rfl⟩ := perm_lift (fun p : Addr × List Int => Value.ref p.1) (st.perm.trans g) L rfl
    have whole : ∀ x ∈ L', TS.intsOf s.heap (.ref x.1) = x.2 := fun x hx => TS.TupInts.ints (told x (p'.mem_iff.mp hx))
    have free := I.hok.fresh le
    have short : L'.length < 64 := p'.length_eq ▸ small
    have obj : ObjOk X.prog X.w (upd H p (.lst (L'.map fun x => V.ref x.1))) s'.heap p (.lst (L'.map fun x => V.ref x.1)) := ⟨by rw [List.length_map]; exact Nat.le_trans (Nat.le_of_lt short) (by decide), _, e, vals_of_refs L', new⟩
    refine ⟨.ref p, _, I.call' (ch := []) os (Un.laid keep le free) (I.hok.laid keep le obj) (gs ▸ I.bare) (fun _ z => nomatch z), rfl, q L' p p' ((p'.map _).nodup_iff.mpr T.nd) short ?_ free⟩
    rw [SrtO.Srtd, List.pairwise_map] at so
    refine so.imp_of_mem fun {x y} hx hy z => ?_
    rw [whole x hx, whole y hy] at z
    exact lex_no.mp z
end
end L3
end
section
namespace W7
open PySem PySem.Spec PyProof.Rows L2 L3
open C8 (Cal pe_c Mak pe_mk Met pe_mt pe_mt0)
def top (i : Nat) : Stmt := PySem.Challenge.pw_turnlots_k56_lumps_peaks_and_bonds.main.body.getD i (.Pass ⟨0, 0, 0, 0⟩)
abbrev FnP (K : PySem.W.Frag) (x : Str) (st : Stmt) (f : Addr) (fd : FuncData) : Prop := FunD K x x (defArgs st) (defBody st) (defScope st) [] [] f fd
/-- the built-in names that the module leaves alone -/
structure Bi (mg : Str → Option Value) : Prop where
  len : mg "len" = none
  min : mg "min" = none
  max : mg "max" = none
  int : mg "int" = none
  range : mg "range" = none
  sorted : mg "sorted" = none
  tuple : mg "tuple" = none
  list : mg "list" = none
  set : mg "set" = none
  isinstance : mg "isinstance" = none
  bool : mg "bool" = none
  enumerate : mg "enumerate" = none
  any : mg "any" = none
  all : mg "all" = none
  sum : mg "sum" = none
  reversed : mg "reversed" = none
section
variable {P : Program} {w : World} {K : PySem.W.Frag} {mg : Str → Option Value} {base : Heap}
theorem mkCal {x : Str} {st : Stmt} {f : Addr} {fd : FuncData} {N ps : List Str} {k : Nat} {sp : Sp} (F : FnP K x st f fd) (g : mg x = some (.ref f)) (S : FnScope N ps (defScope st))
    (hb : ∀ (kV doc pm : Value) (an : Option Addr) (cdv ct : Value) (us : List Value), us.length = ps.length → bindArgs (PySem.W.fnOf x x (defArgs st) (defBody st) (defScope st) .none kV doc pm an cdv ct) ⟨us, []⟩ = pure (ps.zip us))
    (len : ∀ vs H Q E, sp vs H Q E → vs.length = ps.length) (body : ∀ (cdv : Value) (A : Around) (outer : List Env) (s : Shared) (H : Hp) (vs : List V) (Q : VK) (E : XK), Room k (A.deeper (envOfC x (defScope st) s.heap.objs.size f cdv)) → sp vs H Q E →
      ∃ t, PSs (cxOf CX0 P w K mg base N x (defScope st) f cdv A outer s H E).nox (defBody st) t ∧ t { nx := fun _ H' => Q .non H', rt := Q } (start N vs) H) : Cal P w K mg base (k + 1) x sp [] :=
  ⟨f, fd, ps, [], F.ok S len fun cdv A outer s H vs Q E hr h => (body cdv A outer s H vs Q E hr h).elim fun t z => ⟨t, z.1.nox, z.2⟩, g, F.kp, F.bindsN hb, .nil⟩
end
end W7
end
section
namespace W7
open PySem PySem.Spec PyProof.Rows L2 L3
/-! ### heaps: what only grows -/
/-- tuples are kept -/
def TK (H H' : Hp) : Prop := ∀ b xs, H b = some (.tup xs) → H' b = some (.tup xs)
theorem Same.tk {H H' : Hp} (s : Same H H') : TK H H' := fun b xs e => s b _ e
theorem same_upd {H : Hp} {p : Addr} {o : HO} (n : H p = none) : Same H (upd H p o) := fun b u e => by rw [upd_ne (ne_of_none e n)]; exact e
theorem Same.upd_of {H H' : Hp} {p : Addr} {o : HO} (s : Same H H') (n : H p = none) : Same H (upd H' p o) := fun b u e => by rw [upd_ne (ne_of_none e n)]; exact s _ _ e
/-- all but a is kept -/
def SameBut (a : Addr) (H H' : Hp) : Prop := ∀ b o, b ≠ a → H b = some o → H' b = some o
theorem Same.but {a : Addr} {H H' : Hp} (s : Same H H') : SameBut a H H' := fun b o _ e => s b o e
theorem SameBut.trans {a : Addr} {H H1 H2 : Hp} (s : SameBut a H H1) (t : SameBut a H1 H2) : SameBut a H H2 := fun b o n e => t b o n (s b o n e)
/-- the tuple of the ints ns -/
def TupI (H : Hp) (x : V) (ns : List Int) : Prop := ∃ t, x = .ref t ∧ H t = some (.tup (ns.map V.int))
theorem TupI.tk {H H' : Hp} {x : V} {ns : List Int} (h : TupI H x ns) (k : TK H H') : TupI H' x ns := by
  obtain ⟨t, e, h⟩ := h
  exact ⟨t, e, k _ _ h⟩
end W7
end
section
namespace W7
open PySem PySem.Spec PyProof.Rows L2 L3 Evl
/-! ### operators over naturals -/
def rN (C : Nat → Nat → Prop) (g : Nat → Nat → V) : R2 := fun x y H Q => ∃ a b : Nat, x = .int (a : Nat) ∧ y = .int (b : Nat) ∧ C a b ∧ Q (g a b) H
def rN0 (g : Nat → Nat → V) : R2 := fun x y H Q => ∃ a b : Nat, x = .int (a : Nat) ∧ y = .int (b : Nat) ∧ Q (g a b) H
section
variable {X : Cx}
theorem conv {f : Value → Value → Sem Value} {r r' : R2} (ho : OpR X f r) (h : ∀ x y H Q, r' x y H Q → r x y H Q) : OpR X f r' := fun pins s σ H x y v u Q I rx ry q => ho pins s σ H x y v u Q I rx ry (h x y H Q q)
theorem convIx {r r' : R2} (ho : IxR X r) (h : ∀ x y H Q, r' x y H Q → r x y H Q) : IxR X r' := fun a b pins s σ H x y v u Q I rx ry q => ho a b pins s σ H x y v u Q I rx ry (h x y H Q q)
theorem nat0 {f : Value → Value → Sem Value} {gi : Int → Int → V} {gn : Nat → Nat → V} (ho : OpR X f (rI0 gi)) (h : ∀ a b : Nat, gn a b = gi a b) : OpR X f (rN0 gn) := conv ho fun x y H Q ⟨a, b, e1, e2, q⟩ => ⟨a, b, e1, e2, by rw [← h]; exact q⟩
theorem nat1 {f : Value → Value → Sem Value} {C : Int → Int → Prop} {D : Nat → Nat → Prop} {gi : Int → Int → V} {gn : Nat → Nat → V} (ho : OpR X f (rI C gi)) (hc : ∀ a b : Nat, D a b → C a b) (h : ∀ a b : Nat, D a b → gn a b = gi a b) : OpR X f (rN D gn) := conv ho fun x y H Q ⟨a, b, e1, e2, c, q⟩ => ⟨a, b, e1, e2, hc a b c, by rw [← h a b c]; exact q⟩
theorem natC {f : Value → Value → Sem Value} {D : Nat → Nat → Prop} {gi : Int → Int → V} {gn : Nat → Nat → V} (ho : OpR X f (rI0 gi)) (h : ∀ a b : Nat, D a b → gn a b = gi a b) : OpR X f (rN D gn) := conv ho fun x y H Q ⟨a, b, e1, e2, c, q⟩ => ⟨a, b, e1, e2, by rw [← h a b c]; exact q⟩
theorem on_and : OpR X (binaryOp .BitAnd) (rN0 fun a b => .int ((a &&& b : Nat) : Int)) := nat0 op_and fun a b => by rw [and_nat]
theorem on_or : OpR X (binaryOp .BitOr) (rN0 fun a b => .int ((a ||| b : Nat) : Int)) := nat0 op_or fun a b => by rw [or_nat]
theorem on_xor : OpR X (binaryOp .BitXor) (rN0 fun a b => .int ((a ^^^ b : Nat) : Int)) := nat0 op_xor fun a b => by rw [xor_nat]
theorem on_add : OpR X (binaryOp .Add) (rN0 fun a b => .int ((a + b : Nat) : Int)) := nat0 op_add fun a b => by rw [Int.natCast_add]
theorem on_iadd : OpR X (inplaceOp .Add) (rN0 fun a b => .int ((a + b : Nat) : Int)) := nat0 iop_add fun a b => by rw [Int.natCast_add]
def ipN (g : Nat → Nat → Nat) : TIp := fun x y H Q => ∃ a b : Nat, x = .int (a : Nat) ∧ y = .int (b : Nat) ∧ Q (.int (g a b : Nat)) H
theorem ip_addN : PIp X .Add (ipN fun a b => a + b) := fun pins s σ H x y v u Q I r1 r2 ⟨a, b, e1, e2, q⟩ => ip_add pins s σ H x y v u Q I r1 r2 ⟨a, b, e1, e2, by show Q (V.int ((a : Int) + (b : Int))) H; rw [← Int.natCast_add]; exact q⟩
theorem on_sub : OpR X (binaryOp .Sub) (rN (fun a b => b ≤ a) fun a b => .int ((a - b : Nat) : Int)) := natC op_sub fun a b h => by rw [Int.ofNat_sub h]
theorem on_shl : OpR X (binaryOp .LShift) (rN (fun a b => a < 64 ∧ b < 64) fun a b => .int ((a <<< b : Nat) : Int)) := nat1 op_shl (fun a b h => by unfold CPow; omega) fun a b h => by rw [shl_nat]
theorem on_shr : OpR X (binaryOp .RShift) (rN0 fun a b => .int ((a >>> b : Nat) : Int)) := conv op_shr fun x y H Q ⟨a, b, e1, e2, q⟩ => ⟨a, b, e1, e2, by omega, by show Q (V.int ((a : Int) / 2 ^ ((b : Int)).toNat)) H; rw [shr_nat]; exact q⟩
theorem on_mul : OpR X (binaryOp .Mult) (rN (fun a b => a < 2 ^ 64) fun a b => .int ((a * b : Nat) : Int)) := nat1 op_mul (fun a b h => by unfold CMul; omega) fun a b h => by rw [Int.natCast_mul]
theorem on_lt : OpR X (compareOp .Lt) (rN0 fun a b => .bl (decide (a < b))) := nat0 op_lt fun a b => by simp
theorem on_le : OpR X (compareOp .LtE) (rN0 fun a b => .bl (decide (a ≤ b))) := nat0 op_le fun a b => by simp
theorem on_gt : OpR X (compareOp .Gt) (rN0 fun a b => .bl (decide (b < a))) := nat0 op_gt fun a b => by simp
theorem on_ge : OpR X (compareOp .GtE) (rN0 fun a b => .bl (decide (b ≤ a))) := nat0 op_ge fun a b => by simp
theorem on_eq : OpR X (compareOp .Eq) (rN0 fun a b => .bl (decide (a = b))) := conv op_eq fun x y H Q ⟨a, b, e1, e2, q⟩ => by
  subst e1 e2
  refine ⟨rfl, ?_⟩
  have e : (decide (V.int (a : Int) = V.int (b : Int))) = decide (a = b) := by rw [decide_eq_decide, V.int.injEq]; exact Int.ofNat_inj
  rw [e]; exact q
theorem on_ne : OpR X (compareOp .NotEq) (rN0 fun a b => .bl (!decide (a = b))) := conv op_ne fun x y H Q ⟨a, b, e1, e2, q⟩ => by
  subst e1 e2
  refine ⟨rfl, ?_⟩
  have e : (decide (V.int (a : Int) = V.int (b : Int))) = decide (a = b) := by rw [decide_eq_decide, V.int.injEq]; exact Int.ofNat_inj
  rw [e]; exact q
/-- xs[i], i a natural -/
def rIxN (K : PySem.W.Frag) : R2 := fun x y H Q => ∃ p xs i v, x = .ref p ∧ y = .int ((i : Nat) : Int) ∧ SqL K H p xs ∧ xs[i]? = some v ∧ Q v H
def rIxTN (K : PySem.W.Frag) : R2 := fun x y H Q => ∃ p xs i v, x = .ref p ∧ y = .int ((i : Nat) : Int) ∧ SqT K H p xs ∧ xs[i]? = some v ∧ Q v H
theorem atI_nat {xs : List V} {i : Nat} {v : V} (h : xs[i]? = some v) : atI xs (i : Int) = some v := by
  have hi := (List.getElem?_eq_some_iff.mp h).1
  unfold atI
  rw [ixN_nat hi]
  exact h
theorem on_ix {K : PySem.W.Frag} (hK : X.K = K := by rfl) : IxR X (rIxN K) := hK ▸ convIx ix_list fun x y H Q ⟨p, xs, i, v, e1, e2, hs, hv, q⟩ => ⟨p, xs, i, v, e1, e2, hs, atI_nat hv, q⟩
theorem on_ixT {K : PySem.W.Frag} (hK : X.K = K := by rfl) : IxR X (rIxTN K) := hK ▸ convIx ix_tup fun x y H Q ⟨p, xs, i, v, e1, e2, hs, hv, q⟩ => ⟨p, xs, i, v, e1, e2, hs, atI_nat hv, q⟩
theorem pt_truthK {K : PySem.W.Frag} {a : Expr} {ta : TE} (hK : X.K = K) (ha : PE X a ta) (he : ∀ whole, isTrue a X.env whole = (do let v ← whole; standAt a.pos; holding [v] (truthy v))) :
    PT X a (fun σ H Q => ta σ H fun x H' => ∃ k, TruV K x H' k ∧ Q k H') := hK ▸ pt_truth ha he
theorem pe_nat (k : Nat) {e : Expr} (h : PE X e (tC (.int (k : Int)))) : PE X e (tC (.int ((k : Nat) : Int))) := h
end
section
variable {K : PySem.W.Frag} {σ : L2.St} {H : Hp} {ta tb te : TE} {v : V}
theorem ev_n {g : Nat → Nat → V} {a b : Nat} (ha : Ev ta σ H (.int (a : Nat))) (hb : Ev tb σ H (.int (b : Nat))) : Ev (tOp (rN0 g) ta tb) σ H (g a b) := ev_op ha hb fun H1 _ _ q => ⟨a, b, rfl, rfl, q H1 (Ex.refl H1)⟩
theorem ev_nc {C : Nat → Nat → Prop} {g : Nat → Nat → V} {a b : Nat} (ha : Ev ta σ H (.int (a : Nat))) (hb : Ev tb σ H (.int (b : Nat))) (hc : C a b) : Ev (tOp (rN C g) ta tb) σ H (g a b) := ev_op ha hb fun H1 _ _ q => ⟨a, b, rfl, rfl, hc, q H1 (Ex.refl H1)⟩
theorem ev_ix {p : Addr} {xs : List V} {i : Nat} (hs : SqL K H p xs) (ha : Ev ta σ H (.ref p)) (hb : Ev tb σ H (.int (i : Nat))) (hv : xs[i]? = some v) : Ev (tOp (rIxN K) ta tb) σ H v := ev_op ha hb fun H1 e _ q => ⟨p, xs, i, v, rfl, rfl, ex_l e hs, hv, q H1 (Ex.refl H1)⟩
theorem ev_ixT {p : Addr} {xs : List V} {i : Nat} (hs : SqT K H p xs) (ha : Ev ta σ H (.ref p)) (hb : Ev tb σ H (.int (i : Nat))) (hv : xs[i]? = some v) : Ev (tOp (rIxTN K) ta tb) σ H v := ev_op ha hb fun H1 e _ q => ⟨p, xs, i, v, rfl, rfl, ex_t e hs, hv, q H1 (Ex.refl H1)⟩
theorem ev_v (i : Nat) (h : σ[i]? = some (some v) := by rfl) : Ev (tVar i) σ H v := ev_var h
/-- a list of naturals -/
def nv (ns : List Nat) : List V := ns.map fun n => V.int ((n : Nat) : Int)
def bv (bs : List Bool) : List V := bs.map V.bl
theorem nv_get {ns : List Nat} {i : Nat} {x : V} (h : (nv ns)[i]? = some x) : ∃ n, ns[i]? = some n ∧ x = .int ((n : Nat) : Int) := by
  unfold nv at h
  rw [List.getElem?_map] at h
  cases e : ns[i]? with
  | none => exact absurd (e ▸ h) (by simp)
  | some n => rw [e] at h; exact ⟨n, rfl, (Option.some.inj h).symm⟩
theorem nv_len {ns : List Nat} : (nv ns).length = ns.length := by simp [nv]
theorem bv_len {ns : List Bool} : (bv ns).length = ns.length := by simp [bv]
/-- a new list of the elements for which f, over xs -/
theorem given_map {f : Nat → Bool} {v : Nat → V} {n : Nat} : given n f v = ((List.range n).filter f).map v := rfl
/-- [e for x in xs if t], xs a list of naturals -/
theorem given_nats {ns : List Nat} {F : Nat → Bool} {G : Nat → V} {f : Nat → Bool} {v : Nat → V} (hf : ∀ i n, ns[i]? = some n → f i = F n) (hv : ∀ i n, ns[i]? = some n → v i = G n) : given ns.length f v = (ns.filter F).map G := by
  induction ns generalizing f v with
  | nil => rfl
  | cons a as ih =>
    have e : given (a :: as).length f v = (if f 0 then [v 0] else []) ++ given as.length (fun i => f (i + 1)) (fun i => v (i + 1)) := by
      unfold given
      rw [List.length_cons, List.range_succ_eq_map, List.filter_cons, List.filter_map]
      by_cases h : f 0 = true
      · rw [if_pos h, if_pos h]
        simp [Function.comp_def]
      · rw [if_neg h, if_neg h]
        simp [Function.comp_def]
    rw [e, ih (fun i n h => hf (i + 1) n h) (fun i n h => hv (i + 1) n h), hf 0 a rfl, hv 0 a rfl, List.filter_cons]
    by_cases h : F a = true
    · rw [if_pos h, if_pos h]; rfl
    · rw [if_neg h, if_neg h]; rfl
theorem el_nats {a : Addr} {ns : List Nat} {tl : TE} {j : Nat} {vs : List Nat} {t : TT} {σ : L2.St} (F : Nat → Bool) (G : Nat → V) (h : Ev tl σ H (.ref a)) (hx : SqL K H a (nv ns)) (hz : ns.length ≤ 40000) (hw : ∀ x, wipe ((wipe σ vs).set j (some x)) vs = wipe σ vs)
    (ht : ∀ (n : Nat) H1, Ex H H1 → n ∈ ns → EvT t ((wipe σ vs).set j (some (.int (n : Nat)))) H1 (F n)) (he : ∀ (n : Nat) H1, Ex H H1 → n ∈ ns → F n = true → Ev te ((wipe σ vs).set j (some (.int (n : Nat)))) H1 (G n)) :
    EvL (tLc (iList K tl) (gName j) t te vs) σ H ((ns.filter F).map G) := by
  have e := el_lcL (t := t) (te := te) (fun i => F (ns.getD i 0)) (fun i => G (ns.getD i 0)) h hx (by rw [nv_len]; exact hz) hw (fun i x H1 e1 hi => by
    obtain ⟨n, hn, rfl⟩ := nv_get hi
    have e2 : ns.getD i 0 = n := by simp [List.getD, hn]
    show EvT t _ H1 (F (ns.getD i 0))
    rw [e2]
    exact ht n H1 e1 (List.mem_of_getElem? hn)) (fun i x H1 e1 hi hf => by
    obtain ⟨n, hn, rfl⟩ := nv_get hi
    have e2 : ns.getD i 0 = n := by simp [List.getD, hn]
    show Ev te _ H1 (G (ns.getD i 0))
    rw [e2] at hf ⊢
    exact he n H1 e1 (List.mem_of_getElem? hn) hf)
  rw [nv_len, given_nats (F := F) (G := G) (fun i n hn => by simp [List.getD, hn]) (fun i n hn => by simp [List.getD, hn])] at e
  exact e
theorem el_natsN {ns : List Nat} {tl : TE} {j : Nat} {vs : List Nat} {t : TT} {σ : L2.St} (F : Nat → Bool) (G : Nat → V) (h : EvL tl σ H (nv ns)) (hz : ns.length ≤ 40000) (hw : ∀ x, wipe ((wipe σ vs).set j (some x)) vs = wipe σ vs)
    (ht : ∀ (n : Nat) H1, Ex H H1 → n ∈ ns → EvT t ((wipe σ vs).set j (some (.int (n : Nat)))) H1 (F n)) (he : ∀ (n : Nat) H1, Ex H H1 → n ∈ ns → F n = true → Ev te ((wipe σ vs).set j (some (.int (n : Nat)))) H1 (G n)) :
    EvL (tLc (iList K tl) (gName j) t te vs) σ H ((ns.filter F).map G) := by
  have e := el_lcNL (K := K) (t := t) (te := te) (fun i => F (ns.getD i 0)) (fun i => G (ns.getD i 0)) h (by rw [nv_len]; exact hz) hw (fun i x H1 e1 hi => by
    obtain ⟨n, hn, rfl⟩ := nv_get hi
    have e2 : ns.getD i 0 = n := by simp [List.getD, hn]
    show EvT t _ H1 (F (ns.getD i 0))
    rw [e2]
    exact ht n H1 e1 (List.mem_of_getElem? hn)) (fun i x H1 e1 hi hf => by
    obtain ⟨n, hn, rfl⟩ := nv_get hi
    have e2 : ns.getD i 0 = n := by simp [List.getD, hn]
    show Ev te _ H1 (G (ns.getD i 0))
    rw [e2] at hf ⊢
    exact he n H1 e1 (List.mem_of_getElem? hn) hf)
  rw [nv_len, given_nats (F := F) (G := G) (fun i n hn => by simp [List.getD, hn]) (fun i n hn => by simp [List.getD, hn])] at e
  exact e
theorem el_rng {ta : TA} {j : Nat} {vs : List Nat} {n : Nat} {t : TT} {σ : L2.St} (F : Nat → Bool) (G : Nat → V) (h : EvA ta σ H [.int (n : Nat)]) (hn : n ≤ 40000) (hw : ∀ x, wipe ((wipe σ vs).set j (some x)) vs = wipe σ vs)
    (ht : ∀ (i : Nat) H1, Ex H H1 → i < n → EvT t ((wipe σ vs).set j (some (.int (i : Int)))) H1 (F i)) (he : ∀ (i : Nat) H1, Ex H H1 → i < n → F i = true → Ev te ((wipe σ vs).set j (some (.int (i : Int)))) H1 (G i)) :
    EvL (tLc (iRng1 ta) (gName j) t te vs) σ H (((List.range n).filter F).map G) := el_lcR1 (n := (n : Int)) F G h (by omega) hw (fun i H1 e hi => ht i H1 e (by omega)) (fun i H1 e hi hf => he i H1 e (by omega) hf)
theorem s_augN {D : Ends} {i : Nat} {g : Nat → Nat → Nat} {a b : Nat} (h : Ev te σ H (.int (b : Nat))) (k : ∀ H1, Ex H H1 → D.nx (σ.set i (some (.int (g a b : Nat)))) H1) (hx : σ[i]? = some (some (.int (a : Nat))) := by rfl) : tAug i te (ipN g) D σ H :=
  ⟨.int (a : Nat), hx, h H (Ex.refl H) _ fun H1 e => ⟨a, b, rfl, rfl, k H1 e⟩⟩
theorem et_yes : EvT tYes σ H true := fun H1 _ _ q => q H1 (Ex.refl H1)
end
section
variable {K : PySem.W.Frag} {σ : L2.St} {H H0 : Hp} {ta tb te tl : TE} {v : V} {D : Ends} {tu tz : TS}
/-- for x in a tuple | list of naturals that is known from H0 on -/
theorem s_forTN {a : Addr} {ns : List Nat} {j : Nat} (h : Ev tl σ H (.ref a)) (hx : SqT K H0 a (nv ns)) (e0 : Ex H0 H) (Pv : Nat → L2.St → Hp → Prop) (h0 : ∀ H1, Ex H H1 → Pv 0 σ H1) (he : ∀ i σ' H', Pv i σ' H' → Ex H0 H')
    (hs : ∀ i (n : Nat) σ' H', ns[i]? = some n → Pv i σ' H' → tu { D with nx := Pv (i + 1), ct := Pv (i + 1), bk := D.nx } (σ'.set j (some (.int (n : Nat)))) H') (hd : ∀ σ' H', Pv ns.length σ' H' → D.nx σ' H') : tFor (iTup K tl) (gName j) tu D σ H :=
  s_forT (xs := nv ns) h (ex_t e0 hx) Pv h0 (fun i σ' H' _ p => ex_t (he i σ' H' p) hx) (fun i x σ' H' hi p => by
    obtain ⟨n, hn, rfl⟩ := nv_get hi
    exact hs i n σ' H' hn p) (by rw [nv_len]; exact hd)
theorem q_forTN {a : Addr} {ns : List Nat} {j : Nat} (h : Ev tl σ H (.ref a)) (hx : SqT K H0 a (nv ns)) (e0 : Ex H0 H) (Pv : Nat → L2.St → Hp → Prop) (h0 : ∀ H1, Ex H H1 → Pv 0 σ H1) (he : ∀ i σ' H', Pv i σ' H' → Ex H0 H')
    (hs : ∀ i (n : Nat) σ' H', ns[i]? = some n → Pv i σ' H' → tu { D with nx := Pv (i + 1), ct := Pv (i + 1), bk := tz D } (σ'.set j (some (.int (n : Nat)))) H') (hd : ∀ σ' H', Pv ns.length σ' H' → tz D σ' H') : tSeq (tFor (iTup K tl) (gName j) tu) tz D σ H :=
  s_forTN (D := { D with nx := tz D }) h hx e0 Pv h0 he hs hd
theorem s_forLN {a : Addr} {ns : List Nat} {j : Nat} (h : Ev tl σ H (.ref a)) (hx : SqL K H0 a (nv ns)) (e0 : Ex H0 H) (Pv : Nat → L2.St → Hp → Prop) (h0 : ∀ H1, Ex H H1 → Pv 0 σ H1) (he : ∀ i σ' H', Pv i σ' H' → Ex H0 H')
    (hs : ∀ i (n : Nat) σ' H', ns[i]? = some n → Pv i σ' H' → tu { D with nx := Pv (i + 1), ct := Pv (i + 1), bk := D.nx } (σ'.set j (some (.int (n : Nat)))) H') (hd : ∀ σ' H', Pv ns.length σ' H' → D.nx σ' H') : tFor (iList K tl) (gName j) tu D σ H :=
  s_forL (xs := nv ns) h (ex_l e0 hx) Pv h0 (fun i σ' H' _ p => ex_l (he i σ' H' p) hx) (fun i x σ' H' hi p => by
    obtain ⟨n, hn, rfl⟩ := nv_get hi
    exact hs i n σ' H' hn p) (by rw [nv_len]; exact hd)
theorem q_forLN {a : Addr} {ns : List Nat} {j : Nat} (h : Ev tl σ H (.ref a)) (hx : SqL K H0 a (nv ns)) (e0 : Ex H0 H) (Pv : Nat → L2.St → Hp → Prop) (h0 : ∀ H1, Ex H H1 → Pv 0 σ H1) (he : ∀ i σ' H', Pv i σ' H' → Ex H0 H')
    (hs : ∀ i (n : Nat) σ' H', ns[i]? = some n → Pv i σ' H' → tu { D with nx := Pv (i + 1), ct := Pv (i + 1), bk := tz D } (σ'.set j (some (.int (n : Nat)))) H') (hd : ∀ σ' H', Pv ns.length σ' H' → tz D σ' H') : tSeq (tFor (iList K tl) (gName j) tu) tz D σ H :=
  s_forLN (D := { D with nx := tz D }) h hx e0 Pv h0 he hs hd
/-- x = [..], the list new -/
theorem q_asgN {i : Nat} {xs : List V} (h : EvL te σ H xs) (k : ∀ p H1, H p = none → Ex H H1 → H1 p = some (.lst xs) → tz D (σ.set i (some (.ref p))) H1) : tSeq (tAsg te (gName i)) tz D σ H := q_asgL h k
theorem el_sortI {ns : List Nat} (h : EvL te σ H (nv ns)) : ∀ H1, Ex H H1 → ∀ Q : VK, (∀ (ms : List Nat) (p : Addr) (H2 : Hp), ms.Perm ns → ms.Pairwise (· ≤ ·) → H1 p = none → Ex H1 H2 → H2 p = some (.lst (nv ms)) → Q (.ref p) H2) → tCB (rSortedI K) (tCons te tNil) σ H1 Q := fun H1 e Q q => h H1 e _ fun p H2 hp e2 h2 => by
  refine ⟨p, ns.map fun n => ((n : Nat) : Int), rfl, sq_of (by rw [h2]; unfold nv; rw [List.map_map]; rfl), fun is l h3 h4 hl => ?_⟩
  obtain ⟨ms, rfl⟩ : ∃ ms : List Nat, is = ms.map fun n => ((n : Nat) : Int) := by
    refine ⟨is.map Int.toNat, ?_⟩
    rw [List.map_map]
    have : ∀ i ∈ is, ((fun n => ((n : Nat) : Int)) ∘ Int.toNat) i = id i := fun i hi => by
      obtain ⟨n, _, rfl⟩ := List.mem_map.mp (h3.mem_iff.mp hi)
      rfl
    rw [List.map_congr_left this, List.map_id]
  have h5 : ms.Perm ns := by
    have := h3.map Int.toNat
    simpa [List.map_map, Function.comp_def] using this
  have h6 : ms.Pairwise (· ≤ ·) := by
    rw [List.pairwise_map] at h4
    exact h4.imp fun h => by omega
  refine q ms l _ h5 h6 (fresh_back e2 hl) (e2.trans (Ex.new hl)) ?_
  rw [upd_same]; unfold nv; rw [List.map_map]; rfl
end
end W7
end
section
namespace W7
open PySem PySem.Spec PyProof.Rows L2 L3 Evl
section
variable {K : PySem.W.Frag} {σ : L2.St} {H H' : Hp} {ta tb te tl : TE} {v : V} {t : TT}
def RetU (xs : List V) (H : Hp) (Q : VK) : Prop := ∀ p H2, H p = none → Ex H H2 → H2 p = some (.tup xs) → Q (.ref p) H2
def SpU (sp : Sp) (vs : List V) (H : Hp) (xs : List V) : Prop := ∀ H1, Ex H H1 → ∀ Q : VK, (∀ p H2, H1 p = none → Ex H1 H2 → H2 p = some (.tup xs) → Q (.ref p) H2) → ∀ E : XK, sp vs H1 Q E
theorem eu_call {sp : Sp} {dvs vs xs : List V} {E : XK} {ta : TA} (h : EvA ta σ H vs) (hs : SpU sp (vs ++ dvs) H xs) : EvU (tCall sp dvs E ta) σ H xs := by
  intro H1 e Q q
  apply h H1 e
  intro H2 later
  apply hs H2 (e.trans later)
  intro p H3 new more there
  exact q p H3 (fresh_back later new) (later.trans more) there
/-- tuple(l) of a new list -/
def rTupOf (K : PySem.W.Frag) : List V → Hp → VK → Prop := fun xs H Q => ∃ p ys, xs = [.ref p] ∧ ((SqL K H p ys ∧ ∀ l, H l = none → Q (.ref l) (upd H l (.tup ys))) ∨ (SqT K H p ys ∧ Q (.ref p) H))
theorem eu_tupOf {xs : List V} (h : EvL te σ H xs) : EvU (tCB (rTupOf K) (tCons te tNil)) σ H xs := fun H1 e Q q =>
  h H1 e _ fun p H2 hp e2 h2 => ⟨p, xs, rfl, .inl ⟨sq_of h2, fun l hl => q l _ (fresh_back e2 hl) (e2.trans (Ex.new hl)) upd_same⟩⟩
/-! ### lists of lots -/
def TupV (H : Hp) (r : V) (ns : List Nat) : Prop := ∃ t, r = .ref t ∧ H t = some (.tup (nv ns))
theorem TupV.ex {r : V} {ns : List Nat} (h : TupV H r ns) (e : Ex H H') : TupV H' r ns := h.elim fun t z => ⟨t, z.1, e _ _ z.2⟩
def Lots (H : Hp) (rs : List V) (L : List (List Nat)) : Prop := rs.length = L.length ∧ ∀ (i : Nat) (r : V) (ns : List Nat), rs[i]? = some r → L[i]? = some ns → TupV H r ns
theorem Lots.ex {rs : List V} {L : List (List Nat)} (h : Lots H rs L) (e : Ex H H') : Lots H' rs L := ⟨h.1, fun i r ns a b => (h.2 i r ns a b).ex e⟩
def EvLots (te : TE) (σ : L2.St) (H : Hp) (L : List (List Nat)) : Prop := ∀ H1, Ex H H1 → ∀ Q : VK, (∀ p rs H2, H1 p = none → Ex H1 H2 → H2 p = some (.lst rs) → Lots H2 rs L → Q (.ref p) H2) → te σ H1 Q
def RetLots (L : List (List Nat)) (H : Hp) (Q : VK) : Prop := ∀ p rs H2, H p = none → Ex H H2 → H2 p = some (.lst rs) → Lots H2 rs L → Q (.ref p) H2
theorem nil_lots : Lots H [] [] := ⟨rfl, fun i r ns h => by simp at h⟩
theorem Lots.push {rs : List V} {L : List (List Nat)} {r : V} {ns : List Nat} (h : Lots H rs L) (h2 : TupV H r ns) : Lots H (rs ++ [r]) (L ++ [ns]) := by
  refine ⟨by simp [h.1], fun i r' ns' a b => ?_⟩
  by_cases hi : i < rs.length
  · rw [List.getElem?_append_left hi] at a
    rw [List.getElem?_append_left (by rw [← h.1]; exact hi)] at b
    exact h.2 i r' ns' a b
  · rw [List.getElem?_append_right (by omega)] at a
    rw [List.getElem?_append_right (by rw [← h.1]; omega)] at b
    rw [← h.1] at b
    cases hk : i - rs.length with
    | zero => rw [hk] at a b; cases a; cases b; exact h2
    | succ k => rw [hk] at a; simp at a
theorem nv_inj : ∀ {xs ys : List Nat}, nv xs = nv ys → xs = ys
  | [], [], _ => rfl
  | [], _ :: _, h => by simp [nv] at h
  | _ :: _, [], h => by simp [nv] at h
  | a :: as, b :: bs, h => by
    unfold nv at h
    rw [List.map_cons, List.map_cons, List.cons.injEq, V.int.injEq] at h
    have h1 : as = bs := nv_inj h.2
    have h2 : a = b := Int.ofNat_inj.mp h.1
    rw [h1, h2]
theorem TupV.det {r : V} {xs ys : List Nat} (a : TupV H r xs) (b : TupV H r ys) : xs = ys := by
  obtain ⟨t, rfl, h1⟩ := a
  obtain ⟨u, e, h2⟩ := b
  cases e
  rw [h1] at h2
  exact nv_inj (HO.tup.inj (Option.some.inj h2))
theorem Lots.mem {rs : List V} {L : List (List Nat)} (h : Lots H rs L) {r : V} (hr : r ∈ rs) : ∃ ns, ns ∈ L ∧ TupV H r ns := by
  obtain ⟨i, hi⟩ := List.getElem?_of_mem hr
  have hl : i < L.length := by rw [← h.1]; exact (List.getElem?_eq_some_iff.mp hi).1
  exact ⟨L[i], List.getElem_mem hl, h.2 i r _ hi (by simp [hl])⟩
/-- the lot behind a value -/
def lotOf (H : Hp) (r : V) : List Nat := match r with
  | .ref t => match H t with
    | some (.tup xs) => xs.map fun x => match x with | .int i => i.toNat | _ => 0
    | _ => []
  | _ => []
theorem TupV.lotOf {r : V} {ns : List Nat} (h : TupV H r ns) : lotOf H r = ns := by
  obtain ⟨t, rfl, h⟩ := h
  unfold W7.lotOf
  simp only [h]
  unfold nv
  rw [List.map_map]
  exact (List.map_congr_left (g := id) fun a _ => rfl).trans (List.map_id _)
theorem Lots.eq {rs : List V} {L : List (List Nat)} (h : Lots H rs L) : rs.map (lotOf H) = L := by
  apply List.ext_getElem?
  intro i
  rw [List.getElem?_map]
  cases e : rs[i]? with
  | none =>
    have := List.getElem?_eq_none_iff.mp e
    rw [h.1] at this
    rw [List.getElem?_eq_none_iff.mpr this]
    rfl
  | some r =>
    have hl : i < L.length := by rw [← h.1]; exact (List.getElem?_eq_some_iff.mp e).1
    rw [(List.getElem?_eq_some_iff.mpr ⟨hl, rfl⟩ : L[i]? = some L[i]), Option.map_some, (h.2 i r _ e (List.getElem?_eq_some_iff.mpr ⟨hl, rfl⟩)).lotOf]
theorem lots_of {rs : List V} (h : ∀ r ∈ rs, TupV H r (lotOf H r)) : Lots H rs (rs.map (lotOf H)) := ⟨by simp, fun i r ns a b => by
  rw [List.getElem?_map, a] at b
  cases b
  exact h r (List.mem_of_getElem? a)⟩
/-- [f(n) for n in ns], every element a new tuple of naturals -/
theorem el_lots {a : Addr} {ns : List Nat} {j : Nat} {vs : List Nat} {σ : L2.St} (T : Nat → List Nat) (h : Ev tl σ H (.ref a)) (hx : SqL K H a (nv ns)) (hz : ns.length ≤ 40000) (hw : ∀ x, wipe ((wipe σ vs).set j (some x)) vs = wipe σ vs)
    (he : ∀ (n : Nat) H1, Ex H H1 → n ∈ ns → EvU te ((wipe σ vs).set j (some (.int (n : Nat)))) H1 (nv (T n))) :
    EvLots (tLc (iList K tl) (gName j) tYes te vs) σ H (ns.map T) := fun H0 e Q q => h H0 e _ fun H1 e1 => ⟨a, rfl, ⟨nv ns, ex_l (e.trans e1) hx⟩, fun Dl hD =>
  lc_list (xs := nv ns) (fun i H' => H1 Dl = none ∧ Ex H1 H' ∧ ∃ rs, H' Dl = some (.lst rs) ∧ Lots H' rs ((ns.take i).map T)) ⟨hD, Ex.new hD, [], upd_same, nil_lots⟩ (fun i H' _ p => ex_l ((e.trans e1).trans p.2.1) hx) (fun i x H' hi ⟨p1, p2, rs, p3, p4⟩ => ⟨hw x, by
    obtain ⟨n, hn, rfl⟩ := nv_get hi
    show te ((wipe σ vs).set j (some (.int (n : Nat)))) H' _
    refine he n H1 (e.trans e1) (List.mem_of_getElem? hn) H' p2 _ fun b H4 hb e4 h4 => ⟨rs, e4 _ _ p3, ?_, p1, Ex.mut (p2.trans e4) p1, rs ++ [.ref b], upd_same, ?_⟩
    · have hl := (List.getElem?_eq_some_iff.mp hn).1
      have := p4.1
      rw [List.length_map, List.length_take] at this
      exact sz_lt (by omega)
    · rw [List.take_add_one, hn, Option.toList_some, List.map_append]
      have hbD : b ≠ Dl := fun e5 => by rw [e5] at hb; rw [p3] at hb; cases hb
      refine Lots.push ⟨p4.1, fun k r ms a1 a2 => ?_⟩ ⟨b, rfl, by rw [upd_ne hbD]; exact h4⟩
      obtain ⟨t, rfl, ht⟩ := (p4.2 k r ms a1 a2).ex e4
      refine ⟨t, rfl, ?_⟩
      rw [upd_ne (fun e5 => by rw [e5, e4 _ _ p3] at ht; cases ht)]
      exact ht⟩) (fun H' ⟨p1, p2, rs, p3, p4⟩ => q Dl rs H' (fresh_back e1 p1) (e1.trans p2) p3 (by rw [nv_len, List.take_length] at p4; exact p4))⟩
def lexLe (x y : List Nat) : Prop := (x.map fun n => ((n : Nat) : Int)) ≤ (y.map fun n => ((n : Nat) : Int))
/-- sorted(..) of a new list of lots -/
theorem el_sortLots {L : List (List Nat)} (h : EvLots te σ H L) : ∀ H1, Ex H H1 → ∀ Q : VK, (∀ M : List (List Nat), M.Perm L → M.Pairwise lexLe → RetLots M H1 Q) → tCB (rSortLots K) (tCons te tNil) σ H1 Q := fun H1 e Q q => h H1 e _ fun p rs H2 hp e2 h2 hL => by
  have ht : ∀ r ∈ rs, TupV H2 r (lotOf H2 r) := fun r hr => by
    obtain ⟨ns, _, h3⟩ := hL.mem hr
    rw [h3.lotOf]; exact h3
  refine ⟨p, rs, fun r => (lotOf H2 r).map fun n => ((n : Nat) : Int), rfl, sq_of h2, fun r hr => ?_, fun ys l h3 h4 hl => ?_⟩
  · obtain ⟨t, rfl, h3⟩ := ht r hr
    refine ⟨t, rfl, st_of ?_⟩
    rw [h3, List.map_map]; rfl
  · have hp2 : (ys.map (lotOf H2)).Perm L := by rw [← hL.eq]; exact h3.map _
    refine q _ hp2 ?_ l ys _ (fresh_back e2 hl) (e2.trans (Ex.new hl)) upd_same ?_
    · rw [List.pairwise_map]; exact h4
    · exact (lots_of fun r hr => ht r (h3.mem_iff.mp hr)).ex (Ex.new hl)
/-! ### min, max of a new list of naturals -/
theorem ev_minN {ns : List Nat} {m : Nat} (h : EvL te σ H (nv ns)) (hm : m ∈ ns) (hl : ∀ y ∈ ns, m ≤ y) : Ev (tCB (rMin K) (tCons te tNil)) σ H (.int (m : Nat)) := fun H1 e Q q => h H1 e _ fun p H2 hp e2 h2 => by
  refine ⟨p, ns.map fun n => ((n : Nat) : Int), rfl, sq_of (by rw [h2]; unfold nv; rw [List.map_map]; rfl), by rw [List.length_map]; exact List.length_pos_of_mem hm, fun k hk hk2 => ?_⟩
  obtain ⟨n, hn, rfl⟩ := List.mem_map.mp hk
  have h3 := hk2 _ (List.mem_map.mpr ⟨m, hm, rfl⟩)
  have h4 := hl n hn
  have : n = m := by omega
  rw [this]
  exact q H2 e2
theorem ev_maxN {ns : List Nat} {m : Nat} (h : EvL te σ H (nv ns)) (hm : m ∈ ns) (hl : ∀ y ∈ ns, y ≤ m) : Ev (tCB (rMax K) (tCons te tNil)) σ H (.int (m : Nat)) := fun H1 e Q q => h H1 e _ fun p H2 hp e2 h2 => by
  refine ⟨p, ns.map fun n => ((n : Nat) : Int), rfl, sq_of (by rw [h2]; unfold nv; rw [List.map_map]; rfl), by rw [List.length_map]; exact List.length_pos_of_mem hm, fun k hk hk2 => ?_⟩
  obtain ⟨n, hn, rfl⟩ := List.mem_map.mp hk
  have h3 := hk2 _ (List.mem_map.mpr ⟨m, hm, rfl⟩)
  have h4 := hl n hn
  have : n = m := by omega
  rw [this]
  exact q H2 e2
def mn : List Nat → Nat
  | [] => 0
  | a :: as => as.foldl min a
def mx : List Nat → Nat
  | [] => 0
  | a :: as => as.foldl max a
theorem foldmin : ∀ (as : List Nat) (a : Nat), (as.foldl min a = a ∨ as.foldl min a ∈ as) ∧ as.foldl min a ≤ a ∧ ∀ y ∈ as, as.foldl min a ≤ y
  | [], a => ⟨.inl rfl, Nat.le_refl _, fun y h => by cases h⟩
  | b :: bs, a => by
    obtain ⟨h1, h2, h3⟩ := foldmin bs (min a b)
    refine ⟨?_, by simp only [List.foldl_cons]; omega, fun y hy => ?_⟩
    · simp only [List.foldl_cons]
      rcases h1 with h1 | h1
      · rw [h1]
        rcases Nat.le_total a b with h | h
        · exact .inl (Nat.min_eq_left h)
        · exact .inr (by rw [Nat.min_eq_right h]; exact List.mem_cons_self)
      · exact .inr (List.mem_cons_of_mem _ h1)
    · simp only [List.foldl_cons]
      obtain rfl | hy := List.mem_cons.mp hy
      · omega
      · exact h3 y hy
theorem foldmax : ∀ (as : List Nat) (a : Nat), (as.foldl max a = a ∨ as.foldl max a ∈ as) ∧ a ≤ as.foldl max a ∧ ∀ y ∈ as, y ≤ as.foldl max a
  | [], a => ⟨.inl rfl, Nat.le_refl _, fun y h => by cases h⟩
  | b :: bs, a => by
    obtain ⟨h1, h2, h3⟩ := foldmax bs (max a b)
    refine ⟨?_, by simp only [List.foldl_cons]; omega, fun y hy => ?_⟩
    · simp only [List.foldl_cons]
      rcases h1 with h1 | h1
      · rw [h1]
        rcases Nat.le_total a b with h | h
        · exact .inr (by rw [Nat.max_eq_right h]; exact List.mem_cons_self)
        · exact .inl (Nat.max_eq_left h)
      · exact .inr (List.mem_cons_of_mem _ h1)
    · simp only [List.foldl_cons]
      obtain rfl | hy := List.mem_cons.mp hy
      · omega
      · exact h3 y hy
theorem mn_ok {ns : List Nat} (h : ns ≠ []) : mn ns ∈ ns ∧ ∀ y ∈ ns, mn ns ≤ y := by
  cases ns with
  | nil => exact absurd rfl h
  | cons a as =>
    obtain ⟨h1, h2, h3⟩ := foldmin as a
    refine ⟨?_, fun y hy => ?_⟩
    · rcases h1 with h1 | h1
      · show as.foldl min a ∈ _; rw [h1]; exact List.mem_cons_self
      · exact List.mem_cons_of_mem _ h1
    · obtain rfl | hy := List.mem_cons.mp hy
      · exact h2
      · exact h3 y hy
theorem mx_ok {ns : List Nat} (h : ns ≠ []) : mx ns ∈ ns ∧ ∀ y ∈ ns, y ≤ mx ns := by
  cases ns with
  | nil => exact absurd rfl h
  | cons a as =>
    obtain ⟨h1, h2, h3⟩ := foldmax as a
    refine ⟨?_, fun y hy => ?_⟩
    · rcases h1 with h1 | h1
      · show as.foldl max a ∈ _; rw [h1]; exact List.mem_cons_self
      · exact List.mem_cons_of_mem _ h1
    · obtain rfl | hy := List.mem_cons.mp hy
      · exact h2
      · exact h3 y hy
end
end W7
end
section
namespace W7
open PySem PySem.Spec PyProof.Rows L2 L3 Evl
section
variable {X : Cx} {K : PySem.W.Frag} {e l : Expr} {f : Str} {pos : Pos} {ta tl : TE} {tg : Expr}
/-! ### forms with K said, for blocks -/
theorem pe_fldK (hK : X.K = K) (he : PE X e ta) (hb : attributeBase e f X.env (eval e X.env) = eval e X.env) : PE X (.Attribute e f pos) (tFld K ta f) := hK ▸ pe_fld he hb
theorem pi_listK (hK : X.K = K) (hl : PE X l tl) : PI X tg l (iList K tl) := hK ▸ pi_list hl
theorem pi_tupK (hK : X.K = K) (hl : PE X l tl) : PI X tg l (iTup K tl) := hK ▸ pi_tup hl
theorem op_in_seqK (hK : X.K = K) : OpR X (compareOp .In) (rIn K false) := hK ▸ op_in_seq
theorem op_notIn_seqK (hK : X.K = K) : OpR X (compareOp .NotIn) (rIn K true) := hK ▸ op_notIn_seq
theorem call_len_seqK (hK : X.K = K) : CallR X (.builtin "len") (rLenS K) := hK ▸ call_len_seq
theorem call_tuple_ofK (hK : X.K = K) : CallR X (.type "tuple") (rTupOf K) := hK ▸ call_tuple_of
theorem cr_minK (hK : X.K = K) (hc : X.calm = true) : CallR X (.builtin "min") (rMin K) := hK ▸ cr_min hc
theorem cr_maxK (hK : X.K = K) (hc : X.calm = true) : CallR X (.builtin "max") (rMax K) := hK ▸ cr_max hc
end
end W7
end
section
namespace L3
open PySem PySem.Spec PyProof.Rows L2
section
variable {X : Cx}
/-- sorted(xs), ints, a list or a tuple -/
def rSortedA (K : PySem.W.Frag) : List V → Hp → VK → Prop := fun vs H Q => ∃ (a : Addr) (ns : List Int), vs = [V.ref a] ∧ (SqL K H a (ns.map V.int) ∨ SqT K H a (ns.map V.int)) ∧
  ∀ (is : List Int) (p : Addr), is.Perm ns → is.Pairwise (· ≤ ·) → H p = none → Q (.ref p) (upd H p (.lst (is.map V.int)))
theorem cr_sortedA : CallR X (.builtin "sorted") (rSortedA X.K) := by
  intro pins s σ H vs us Q I r ⟨a, ns, e, ha, q⟩
  subst e
  rw [Vals.ref1 r]
  refine sorted_inv (ltv := SrtO.ltIv) I SrtO.swo_int ha (fun its rv h2 _ _ _ _ => SrtO.ints_sortable (ints_of_vals rv) h2) fun its out rv so st => ?_
  obtain ⟨is_out, perm, up⟩ := SrtO.ints_out (ints_of_vals rv) so st
  exact ⟨_, vals_of_ints is_out, fun p => q _ p perm up⟩
end
/-! ### enumerate over a tuple -/
def IteT (K : PySem.W.Frag) (a : Addr) : It :=
  ⟨fun i H => ∃ (xs : List V) (x : V), SqT K H a xs ∧ xs[i]? = some x, fun i H v H' => ∃ T x, v = .ref T ∧ H T = none ∧ H' = upd H T (.tup [.int (i : Nat), x]) ∧ ∀ xs, SqT K H a xs → xs[i]? = some x, fun i H => ∃ xs : List V, SqT K H a xs ∧ xs.length = i⟩
/-- what stands at a tuple is known but for tokens -/
theorem sqT_same {X : Cx} {pins : List (Addr × Obj)} {σ : L2.St} {H : Hp} {s : Shared} {a : Addr} {xs : List V} {its : List Value} (I : Inv X pins σ H s) (rv : Vals xs its) (p : IsTup s.heap a its.toArray) {ys : List V} (h : SqT X.K H a ys) : ys = xs := by
  obtain ⟨its2, rv2, p2, _⟩ := I.tuple h
  obtain ⟨o, ho, _, n, hd⟩ := p
  obtain ⟨o2, ho2, _, n2, hd2⟩ := p2
  obtain rfl : o = o2 := Option.some.inj (ho.symm.trans ho2)
  have e : its.toArray = its2.toArray := by
    rw [hd] at hd2
    cases hd2
    rfl
  have e2 : its = its2 := by simpa using congrArg Array.toList e
  exact Vals.inj (e2 ▸ rv2) rv
theorem turn_enumT {P : Program} {w : World} {K : PySem.W.Frag} {elts : List Expr} {kk : Nat} {tpos : Pos} (a e it : Addr) :
    Turn P w K (.Tuple elts kk tpos) (IteT K a) [e, it] e (fun i h => (∃ old, IsEnum h e it ((i : Nat) : Int) old) ∧ h.IsTupleIter it a i ∧ e ≠ it) where
  mem := List.mem_cons_self
  obj := by
    rintro i h ⟨⟨old, he⟩, ⟨o, ho, _, hd⟩, _⟩ b hb
    obtain z | z := List.mem_cons.mp hb
    · exact ⟨_, z ▸ he, fun v z => by cases z⟩
    · refine ⟨o, (List.mem_singleton.mp z) ▸ ho, fun v z => ?_⟩
      rw [hd] at z
      cases z
  keep := by
    rintro i h h' ⟨⟨old, he⟩, ⟨o, ho, hc, hd⟩, ne⟩ k
    exact ⟨⟨old, k e List.mem_cons_self _ he⟩, ⟨o, k it (List.mem_cons_of_mem _ List.mem_cons_self) o ho, hc, hd⟩, ne⟩
  item := by
    intro X hP hw hK calm i pins s σ H E I fp ⟨⟨old, he⟩, ti, ne⟩ ⟨xs, x, hx, xi⟩
    subst hP hw hK
    obtain ⟨its, rv, tup, _⟩ := I.tuple hx
    obtain ⟨u, ui, ru⟩ := rv.get xi
    have lt : i < its.toArray.size := by simpa using (List.getElem?_eq_some_iff.mp ui).1
    have cls_a : ∃ o, s.heap.get? a = some o ∧ o.cls = .type "tuple" := by
      obtain ⟨o, ho, hc, _⟩ := tup
      exact ⟨o, ho, hc⟩
    have a_it : a ≠ it := by
      rintro rfl
      obtain ⟨o, ho, hc⟩ := cls_a
      obtain ⟨o2, ho2, hc2, _⟩ := ti
      rw [Option.some.inj (ho.symm.trans ho2), hc2] at hc
      exact absurd (Value.type.inj hc) (by decide)
    have a_e : e ≠ a := by
      rintro rfl
      obtain ⟨o, ho, hc⟩ := cls_a
      rw [← Option.some.inj (he.symm.trans ho)] at hc
      exact absurd (Value.type.inj hc) (by decide)
    have D := Draws.tuple (prog := X.prog) (w := X.w) (A := X.A.in1) (I.ok.hd calm) it a a_it its.toArray
    refine wpAny_pyNext_enum_itemD D he ⟨ti, tup⟩ lt ne (by simp [ne, a_e]) fun y h1 tk yi out ti1 new size keep => ⟨_, rfl, ?_⟩
    refine wpAny_letOwnedTupleGo_enum out fun h2 he2 b2 => ?_
    have yu : y = u := by
      have : its.toArray[i]? = some u := by simpa using ui
      exact Option.some.inj (yi.symm.trans this)
    have below : ∀ b ∈ [e, it], b < s.heap.objs.size := by
      intro b hb
      obtain z | z := List.mem_cons.mp hb
      · exact z ▸ Heap.lt_size he
      · obtain ⟨o, ho, _⟩ := ti
        exact (List.mem_singleton.mp z) ▸ Heap.lt_size ho
    have top_e : s.heap.objs.size ≠ e := Nat.ne_of_gt (below e List.mem_cons_self)
    have J : Inv X pins σ (upd H s.heap.objs.size (.tup [.int (i : Nat), x])) { s with heap := h2, toks := tk + 1 } := by
      refine I.turnedNew (ch := [e, it]) (fun b o nb hb => ?_) fp (Nat.le_refl _) ⟨by simp [sizeLine], [.int i tk, y], .cons ⟨_, rfl⟩ (.cons (yu ▸ ru) .nil), ⟨_, (b2.2 _ top_e).trans new, rfl, _, rfl⟩⟩
      have nb2 : b ≠ e ∧ b ≠ it := by simpa using nb
      exact (b2.2 b nb2.1).trans (keep b o nb2.1 nb2.2 hb)
    refine ⟨.ref s.heap.objs.size, _, J, rfl, ⟨_, x, rfl, I.hok.fresh (Nat.le_refl _), rfl, fun ys hy => ?_⟩, ⟨⟨y, ?_⟩, ?_, ne⟩, fun b hb => ?_⟩
    · rw [sqT_same I rv tup hy]; exact xi
    · have cast : ((i + 1 : Nat) : Int) = (i : Int) + 1 := by omega
      rw [cast]; exact he2
    · obtain ⟨⟨o, ho, hc, hd⟩, _⟩ := ti1
      exact ⟨o, (b2.2 it ne.symm).trans ho, hc, hd⟩
    · rw [upd_ne (Nat.ne_of_lt (below b hb))]
      exact (fp b hb).1
  done := by
    intro X hP hw hK calm i pins s σ H E I fp ⟨⟨old, he⟩, ti, ne⟩ ⟨xs, hx, len⟩
    subst hP hw hK
    obtain ⟨its, rv, tup, _⟩ := I.tuple hx
    have at_end : its.toArray.size = i := by
      rw [← len, rv.length]; simp
    have a_it : a ≠ it := by
      rintro rfl
      obtain ⟨o, ho, hc, _⟩ := tup
      obtain ⟨o2, ho2, hc2, _⟩ := ti
      rw [Option.some.inj (ho.symm.trans ho2), hc2] at hc
      exact absurd (Value.type.inj hc) (by decide)
    have D := Draws.tuple (prog := X.prog) (w := X.w) (A := X.A.in1) (I.ok.hd calm) it a a_it its.toArray
    refine wpAny_pyNext_enum_endD D he ⟨at_end ▸ ti, tup⟩ fun h' b => ⟨rfl, ?_⟩
    exact I.turnedL (t' := s.toks) (ch := [it]) (fun c o nc hc => b c o (by simpa using nc) hc) fun c hc => fp c (List.mem_cons_of_mem _ hc)
  self := by
    rintro A i s Q E ⟨⟨old, he⟩, _⟩ q
    exact wpAny_pyIter_enum he q
theorem wp_either {M : Model} {A : Around} {α : Type} {c : Prop} [Decidable c] {x y : Sem α} {Q : α → Shared → Prop} {E : Value → Shared → Prop} {s : Shared} (hx : wpAny M A x Q E s) (hy : wpAny M A y Q E s) : wpAny M A (if c then x else y) Q E s := by
  by_cases h : c
  · rw [if_pos h]; exact hx
  · rw [if_neg h]; exact hy
/-- enumerate(t), t a tuple: an iterator of t, and the enumerate object over it -/
theorem meets_enumerate_newT (t : Addr) (items : Array Value) : Meets (Builtin.«enumerate.__new__» ⟨[.type "enumerate", .ref t], []⟩) (fun _ R s => s.heap.IsTuple t items ∧ ∀ h' : Heap, IsEnum h' (s.heap.objs.size + 1) s.heap.objs.size 0 .none → h'.IsTupleIter s.heap.objs.size t 0 →
      (∀ b o, s.heap.get? b = some o → h'.get? b = some o) → R (.ok (.ret (.ref (s.heap.objs.size + 1)))) { s with heap := h' }) := by
  rintro prog w A R s ⟨ht, h⟩
  have cls : Builtin.SmallTypes.newClass "enumerate" ⟨[.type "enumerate", .ref t], []⟩ = pure (.type "enumerate", [.ref t]) := by kernel_rfl
  unfold Builtin.«enumerate.__new__»
  rw [cls]
  apply wpAny_bind (wpAny_pure _)
  dsimp only
  rw [if_pos (by decide)]
  refine wpAny_bind (wpAny_bind (wpAny_stack_any fun st => wpAny_pure ?_))
  have it_new := Heap.get?_push_size s.heap (o := { cls := .type "tuple_iterator", data := .fields #[.ref t, .int 0 0] }) rfl
  refine wp_either ?_ ?_ <;>
  · apply wpAny_bind (wpAny_pure _)
    refine wpAny_bind ((begins_tuple t items).iter prog w A.in1 _ s _ ht ?_)
    refine wpAny_bind ?_
    show wpAny (model prog w) A.in1 (newObj (.type "enumerate") (.fields #[.none, .bool false, .ref s.heap.objs.size, rawInt 0, .none, .none])) _ _ _
    refine wpAny_newObj_type (wpAny_pure ?_) (by simp [sizeOk, sizeLine])
    have it_old : ∀ ob, ((s.heap.push { cls := .type "tuple_iterator", data := .fields #[.ref t, .int 0 0] }).push ob).get? s.heap.objs.size = _ := fun ob => Heap.get?_push_of_some ob it_new
    have one_more : (s.heap.push { cls := .type "tuple_iterator", data := .fields #[.ref t, .int 0 0] }).objs.size = s.heap.objs.size + 1 := by simp [Heap.push]
    have e_new := Heap.get?_push_size (s.heap.push { cls := .type "tuple_iterator", data := .fields #[.ref t, .int 0 0] }) (o := { cls := .type "enumerate", data := .fields #[.none, .bool false, .ref s.heap.objs.size, rawInt 0, .none, .none] }) rfl
    rw [one_more] at e_new
    have out := h _ e_new ⟨_, it_old _, rfl, rfl⟩ fun b o e => Heap.get?_push_of_some _ (Heap.get?_push_of_some _ e)
    rw [← one_more] at out
    exact out
theorem call_enumerate_tup {prog : Program} {w : World} {A : Around} {E : Value → Shared → Prop} {s : Shared} {t : Addr} {items : Array Value} {Q : Value → Shared → Prop} (ht : s.heap.IsTuple t items)
    (h : ∀ h' : Heap, IsEnum h' (s.heap.objs.size + 1) s.heap.objs.size 0 .none → h'.IsTupleIter s.heap.objs.size t 0 → (∀ b o, s.heap.get? b = some o → h'.get? b = some o) → Q (.ref (s.heap.objs.size + 1)) { s with heap := h' }) :
    wpAny (model prog w) A (call (.type "enumerate") [.ref t]) Q E s :=
  callType_new PySem.F.called_enumerate (by decide) (PySem.F.typeCall_enumerate_1 _) (PySem.F.newCall_enumerate_1 _) (fun obj => PySem.F.initArgs_range_1 obj _) PySem.F.entry_enumerate_new (meets_enumerate_newT t items)
    ⟨ht, fun h' he hi keep => ⟨⟨_, he, rfl⟩, h h' he hi keep⟩⟩
/-- an iterator of n turns is walked to its end -/
theorem for_any {J : It} {n : Nat} {g : TG} {tb : TS} {D : Ends} {σ : L2.St} {H : Hp} (Pv : Nat → L2.St → Hp → Prop) (h0 : Pv 0 σ H) (hg : ∀ i σ H, i < n → Pv i σ H → J.go i H) (hz : ∀ σ H, Pv n σ H → J.stop n H)
    (hs : ∀ i x σ H H', i < n → Pv i σ H → J.yld i H x H' → g x σ H' fun σ2 H2 => tb { D with nx := Pv (i + 1), ct := Pv (i + 1), bk := D.nx } σ2 H2) (hd : ∀ σ H, Pv n σ H → D.nx σ H) :
    ∃ W : Nat → Nat → L2.St → Hp → Prop, (∃ m, W 0 m σ H) ∧ ∀ i m σ H, W i m σ H → (J.stop i H ∧ D.nx σ H) ∨
      (J.go i H ∧ ∃ N : L2.St → Hp → Prop, (∀ σ' H', N σ' H' → ∃ m', m' < m ∧ W (i + 1) m' σ' H') ∧ ∀ x H', J.yld i H x H' → g x σ H' fun σ2 H2 => tb { D with nx := N, ct := N, bk := D.nx } σ2 H2) := by
  refine ⟨fun i m σ H => i + m = n ∧ Pv i σ H, ⟨n, Nat.zero_add n, h0⟩, fun i m σ H w => ?_⟩
  obtain ⟨e, p⟩ := w
  cases m with
  | zero =>
    have e : i = n := e
    subst e
    exact Or.inl ⟨hz σ H p, hd σ H p⟩
  | succ m =>
    have lt : i < n := by omega
    exact Or.inr ⟨hg i σ H lt p, Pv (i + 1), fun σ' H' p' => ⟨m, Nat.lt_succ_self m, by omega, p'⟩, fun x H' y => hs i x σ H H' lt p y⟩
theorem get_some {xs : List V} {i : Nat} (h : i < xs.length) : ∃ x, xs[i]? = some x := ⟨_, List.getElem?_eq_getElem h⟩
theorem for_enumA {K : PySem.W.Frag} {a : Addr} {xs : List V} {g : TG} {tb : TS} {D : Ends} {σ : L2.St} {H : Hp} (Pv : Nat → L2.St → Hp → Prop) (h0 : Pv 0 σ H) (hl : ∀ i σ H, i ≤ xs.length → Pv i σ H → SqT K H a xs)
    (hs : ∀ i x σ H T, xs[i]? = some x → Pv i σ H → H T = none → g (.ref T) σ (upd H T (.tup [.int (i : Nat), x])) fun σ2 H2 => tb { D with nx := Pv (i + 1), ct := Pv (i + 1), bk := D.nx } σ2 H2) (hd : ∀ σ H, Pv xs.length σ H → D.nx σ H) :
    ∃ W : Nat → Nat → L2.St → Hp → Prop, (∃ m, W 0 m σ H) ∧ ∀ i m σ H, W i m σ H → ((IteT K a).stop i H ∧ D.nx σ H) ∨
      ((IteT K a).go i H ∧ ∃ N : L2.St → Hp → Prop, (∀ σ' H', N σ' H' → ∃ m', m' < m ∧ W (i + 1) m' σ' H') ∧ ∀ x H', (IteT K a).yld i H x H' → g x σ H' fun σ2 H2 => tb { D with nx := N, ct := N, bk := D.nx } σ2 H2) := by
  refine for_any (J := IteT K a) (n := xs.length) Pv h0 (fun i σ H lt p => ?_) (fun σ H p => ⟨xs, hl _ σ H (Nat.le_refl _) p, rfl⟩) (fun i v σ H H' lt p y => ?_) hd
  · obtain ⟨x, hx⟩ := get_some lt
    exact ⟨xs, x, hl i σ H (Nat.le_of_lt lt) p, hx⟩
  · obtain ⟨T, x, rfl, free, rfl, is⟩ := y
    exact hs i x σ H T (is xs (hl i σ H (Nat.le_of_lt lt) p)) p free
theorem for_enumL {K : PySem.W.Frag} {a : Addr} {xs : List V} {g : TG} {tb : TS} {D : Ends} {σ : L2.St} {H : Hp} (Pv : Nat → L2.St → Hp → Prop) (h0 : Pv 0 σ H) (hl : ∀ i σ H, i ≤ xs.length → Pv i σ H → SqL K H a xs)
    (hs : ∀ i x σ H T, xs[i]? = some x → Pv i σ H → H T = none → g (.ref T) σ (upd H T (.tup [.int (i : Nat), x])) fun σ2 H2 => tb { D with nx := Pv (i + 1), ct := Pv (i + 1), bk := D.nx } σ2 H2) (hd : ∀ σ H, Pv xs.length σ H → D.nx σ H) :
    ∃ W : Nat → Nat → L2.St → Hp → Prop, (∃ m, W 0 m σ H) ∧ ∀ i m σ H, W i m σ H → ((Ite K a).stop i H ∧ D.nx σ H) ∨
      ((Ite K a).go i H ∧ ∃ N : L2.St → Hp → Prop, (∀ σ' H', N σ' H' → ∃ m', m' < m ∧ W (i + 1) m' σ' H') ∧ ∀ x H', (Ite K a).yld i H x H' → g x σ H' fun σ2 H2 => tb { D with nx := N, ct := N, bk := D.nx } σ2 H2) := by
  refine for_any (J := Ite K a) (n := xs.length) Pv h0 (fun i σ H lt p => ?_) (fun σ H p => ⟨xs, hl _ σ H (Nat.le_refl _) p, Nat.le_refl _⟩) (fun i v σ H H' lt p y => ?_) hd
  · obtain ⟨x, hx⟩ := get_some lt
    exact ⟨xs, x, hl i σ H (Nat.le_of_lt lt) p, hx⟩
  · obtain ⟨T, x, rfl, free, rfl, is⟩ := y
    exact hs i x σ H T (is xs (hl i σ H (Nat.le_of_lt lt) p)) p free
def iEnumA (K : PySem.W.Frag) (ta : TA) : TI := fun σ H R => ta σ H fun vs H1 => ∃ a xs, vs = [.ref a] ∧ ((SqL K H1 a xs ∧ R (Ite K a) H1) ∨ (SqT K H1 a xs ∧ R (IteT K a) H1))
/-- an enumerate object has come, and the iterator below it -/
theorem enum_came {X : Cx} {pins : List (Addr × Obj)} {σ : L2.St} {H : Hp} {s : Shared} {tg : Expr} {R : It → Hp → Prop} {J : It} {tn : Nat → Heap → Prop} {h' : Heap} (I : Inv X pins σ H s) (keep : ∀ b o, s.heap.get? b = some o → h'.get? b = some o)
    (T : Turn X.prog X.w X.K tg J [s.heap.objs.size + 1, s.heap.objs.size] (s.heap.objs.size + 1) tn) (z : tn 0 h') (q : R J H) : PIE X pins σ tg R (.ref (s.heap.objs.size + 1)) { s with heap := h' } := by
  refine ⟨_, _, tn, J, H, rfl, I.turnedL (t' := s.toks) (ch := []) (fun b o _ => keep b o) (fun b hb => nomatch hb), T, z, fun b hb => ?_, q⟩
  have le : s.heap.objs.size ≤ b := by
    obtain z | z := List.mem_cons.mp hb
    · rw [z]; exact Nat.le_succ _
    · exact Nat.le_of_eq (List.mem_singleton.mp z).symm
  exact I.fpOk le (I.hok.fresh le)
theorem pi_enumA {X : Cx} {e : Expr} {ta : TA} {p pos tpos : Pos} {elts : List Expr} {kk : Nat} (hg : Gl X "enumerate") (hm : X.mg "enumerate" = none) (ha : PA X [e] ta) (hs : starEach [e] X.env = [(false, eval e X.env)] := by rfl) :
    PI X (.Tuple elts kk tpos) (.Call (.Name "enumerate" p) [e] [] pos) (iEnumA X.K ta) := by
  constructor
  intro pins s σ H R I h
  have args := ha.run pos pins s σ H _ I h
  have apart : ∀ n : Nat, n + 1 ≠ n := fun n => Nat.succ_ne_self n
  apply Call_
  apply ld_blt I hg hm boot_enumerate
  apply PyProof.Rows.callWith_type1 _ hs
  refine thn args fun us s1 came => ?_
  obtain ⟨vs, H1, I1, r1, a, xs, rfl, ⟨hl, q⟩ | ⟨ht, q⟩⟩ := came
  · rw [Vals.ref1 r1]
    obtain ⟨its, _, pl, _⟩ := I1.list hl
    refine call_enumerate_list pl.isList fun h' e1 e2 _ keep => ?_
    refine wpAny_pyIter_enum e1 (enum_came I1 keep (turn_enum a _ _) ⟨⟨_, e1⟩, e2, apart _⟩ q)
  · rw [Vals.ref1 r1]
    obtain ⟨its, _, pt, _⟩ := I1.tuple ht
    refine call_enumerate_tup pt fun h' e1 e2 keep => ?_
    refine wpAny_pyIter_enum e1 (enum_came I1 keep (turn_enumT a _ _) ⟨⟨_, e1⟩, e2, apart _⟩ q)
  case he => rfl
end L3
end
section
namespace W7
open PySem PySem.Spec PyProof.Rows L2 L3 Evl
/-! ### comprehensions over enumerate -/
/-- what a turn of a comprehension asks, N behind it -/
def TurnW (g : TG) (tt : TT) (te : TE) (vs : List Nat) (σ : L2.St) (D : Addr) (N : Hp → Prop) (x : V) (H : Hp) : Prop :=
  g x (wipe σ vs) H fun σ2 H2 => wipe σ2 vs = wipe σ vs ∧ tt σ2 H2 fun b H3 => if b = true then te σ2 H3 fun y H4 => ∃ acc, H4 D = some (.lst acc) ∧ acc.length < sizeLine ∧ N (upd H4 D (.lst (acc ++ [y])))
    else N H3
/-- an iterator of n turns is walked to its end by a comprehension -/
theorem lc_any {J : It} {n : Nat} {g : TG} {tt : TT} {te : TE} {vs : List Nat} {σ : L2.St} {H1 : Hp} {D : Addr} {Qd : Hp → Prop} (Pv : Nat → Hp → Prop) (h0 : Pv 0 (upd H1 D (.lst []))) (hg : ∀ i H, i < n → Pv i H → J.go i H) (hz : ∀ H, Pv n H → J.stop n H)
    (hs : ∀ i x H H', i < n → Pv i H → J.yld i H x H' → TurnW g tt te vs σ D (Pv (i + 1)) x H') (hd : ∀ H, Pv n H → Qd H) :
    ∃ W : Nat → Nat → Hp → Prop, (∃ m, W 0 m (upd H1 D (.lst []))) ∧ ∀ i m H, W i m H → (J.stop i H ∧ Qd H) ∨
      (J.go i H ∧ ∃ N : Hp → Prop, (∀ H', N H' → ∃ m', m' < m ∧ W (i + 1) m' H') ∧ ∀ x H', J.yld i H x H' → TurnW g tt te vs σ D N x H') := by
  refine ⟨fun i m H => i + m = n ∧ Pv i H, ⟨n, Nat.zero_add n, h0⟩, fun i m H w => ?_⟩
  obtain ⟨e, p⟩ := w
  cases m with
  | zero =>
    have e : i = n := e
    subst e
    exact Or.inl ⟨hz H p, hd H p⟩
  | succ m =>
    have lt : i < n := by omega
    exact Or.inr ⟨hg i H lt p, Pv (i + 1), fun H' p' => ⟨m, Nat.lt_succ_self m, by omega, p'⟩, fun x H' y => hs i x H H' lt p y⟩
theorem lc_enumL {K : PySem.W.Frag} {a : Addr} {xs : List V} {g : TG} {tt : TT} {te : TE} {vs : List Nat} {σ : L2.St} {H1 : Hp} {D : Addr} {Qd : Hp → Prop} (Pv : Nat → Hp → Prop) (h0 : Pv 0 (upd H1 D (.lst []))) (hl : ∀ i H, i ≤ xs.length → Pv i H → SqL K H a xs)
    (hs : ∀ i x H T, xs[i]? = some x → Pv i H → H T = none → g (.ref T) (wipe σ vs) (upd H T (.tup [.int (i : Nat), x])) fun σ2 H2 => wipe σ2 vs = wipe σ vs ∧ tt σ2 H2 fun b H3 => if b = true then te σ2 H3 fun y H4 => ∃ acc, H4 D = some (.lst acc) ∧ acc.length < sizeLine ∧ Pv (i + 1) (upd H4 D (.lst (acc ++ [y]))) else Pv (i + 1) H3) (hd : ∀ H, Pv xs.length H → Qd H) :
    ∃ W : Nat → Nat → Hp → Prop, (∃ m, W 0 m (upd H1 D (.lst []))) ∧ ∀ i m H, W i m H → ((Ite K a).stop i H ∧ Qd H) ∨
      ((Ite K a).go i H ∧ ∃ N : Hp → Prop, (∀ H', N H' → ∃ m', m' < m ∧ W (i + 1) m' H') ∧ ∀ x H', (Ite K a).yld i H x H' → g x (wipe σ vs) H' fun σ2 H2 => wipe σ2 vs = wipe σ vs ∧ tt σ2 H2 fun b H3 => if b = true then te σ2 H3 fun y H4 => ∃ acc, H4 D = some (.lst acc) ∧ acc.length < sizeLine ∧ N (upd H4 D (.lst (acc ++ [y]))) else N H3) := by
  refine lc_any (J := Ite K a) (g := g) (tt := tt) (te := te) (n := xs.length) Pv h0 (fun i H lt p => ?_) (fun H p => ⟨xs, hl _ H (Nat.le_refl _) p, Nat.le_refl _⟩) (fun i v H H' lt p y => ?_) hd
  · obtain ⟨x, hx⟩ := get_some lt
    exact ⟨xs, x, hl i H (Nat.le_of_lt lt) p, hx⟩
  · obtain ⟨T, x, rfl, free, rfl, is⟩ := y
    exact hs i x H T (is xs (hl i H (Nat.le_of_lt lt) p)) p free
/-- [f(i, n) for i, n in enumerate(ns) if t], ns a list of naturals that is known -/
theorem el_enumN {K : PySem.W.Frag} {σ : L2.St} {H : Hp} {tl te : TE} {a : Addr} {ns : List Nat} {j1 j2 : Nat} {vs : List Nat} {tt : TT} (F : Nat → Nat → Bool) (G : Nat → Nat → V) (h : Ev tl σ H (.ref a)) (hx : SqL K H a (nv ns)) (hz : ns.length ≤ 40000)
    (hw : ∀ x y, wipe (((wipe σ vs).set j1 (some x)).set j2 (some y)) vs = wipe σ vs)
    (ht : ∀ (i n : Nat) H1, Ex H H1 → ns[i]? = some n → EvT tt (((wipe σ vs).set j1 (some (.int (i : Nat)))).set j2 (some (.int (n : Nat)))) H1 (F i n))
    (he : ∀ (i n : Nat) H1, Ex H H1 → ns[i]? = some n → F i n = true → Ev te (((wipe σ vs).set j1 (some (.int (i : Nat)))).set j2 (some (.int (n : Nat)))) H1 (G i n)) :
    EvL (tLc (iEnumA K (tCons tl tNil)) (gTup K 2 (gCons (gName j1) (gCons (gName j2) gNil))) tt te vs) σ H (((List.range ns.length).filter fun i => F i (ns.getD i 0)).map fun i => G i (ns.getD i 0)) := fun H0 e Q q => h H0 e _ fun H1 e1 => ⟨a, nv ns, rfl, .inl ⟨ex_l (e.trans e1) hx, fun Dl hD =>
  lc_enumL (xs := nv ns) (fun i H' => H1 Dl = none ∧ Ex H1 H' ∧ H' Dl = some (.lst (((List.range i).filter fun i => F i (ns.getD i 0)).map fun i => G i (ns.getD i 0)))) ⟨hD, Ex.new hD, upd_same⟩ (fun i H' _ p => ex_l ((e.trans e1).trans p.2.1) hx) (fun i x H' T hi ⟨p1, p2, p3⟩ hT => by
    obtain ⟨n, hn, rfl⟩ := nv_get hi
    have hil := (List.getElem?_eq_some_iff.mp hn).1
    have hg : ns.getD i 0 = n := by simp [List.getD, hn]
    have eT := Ex.new (o := .tup [.int (i : Nat), .int (n : Nat)]) hT
    have lenb : (((List.range i).filter fun i => F i (ns.getD i 0)).map fun i => G i (ns.getD i 0)).length ≤ i := by
      rw [List.length_map]
      refine Nat.le_trans (List.length_filter_le _ _) ?_
      rw [List.length_range]; exact Nat.le_refl _
    refine ⟨T, [.int (i : Nat), .int (n : Nat)], rfl, st_of upd_same, rfl, _, _, rfl, _, _, rfl, rfl, hw _ _, ?_⟩
    refine ht i n H' (e.trans (e1.trans p2)) hn _ eT _ fun H3 e3 => ?_
    have ee := p2.trans (eT.trans e3)
    have p4 := e3 _ _ (eT _ _ p3)
    cases hf : F i n with
    | true =>
      show te _ H3 _
      refine he i n H' (e.trans (e1.trans p2)) hn hf H3 (eT.trans e3) _ fun H4 e4 => ⟨_, e4 _ _ p4, sz_lt (by omega), p1, Ex.mut (ee.trans e4) p1, ?_⟩
      rw [upd_same, List.range_succ, List.filter_append, List.map_append, List.filter_cons, hg, if_pos hf]
      simp [hn]
    | false =>
      show _ ∧ _ ∧ _
      refine ⟨p1, ee, ?_⟩
      rw [p4, List.range_succ, List.filter_append, List.map_append, List.filter_cons, hg, if_neg (by rw [hf]; decide)]
      simp) (fun H' ⟨p1, p2, p3⟩ => q Dl H' (fresh_back e1 p1) (e1.trans p2) (by rw [nv_len] at p3; exact p3))⟩⟩
end W7
end
section
namespace W7
open PySem PySem.Spec PyProof.Rows L2 L3 Evl
open C8 (Cal pe_c Mak pe_mk Met pe_mt pe_mt0)
section
variable {P : Program} {w : World} {K : PySem.W.Frag} {mg : Str → Option Value} {base : Heap} {f : Addr} {fd : FuncData}
/-- the number of things of a mask, up to twelve -/
def bitsF : Nat → Nat → Nat
  | 0, _ => 12
  | f + 1, n => if n = 0 then 12 - (f + 1) else bitsF f (n &&& (n - 1))
abbrev bits (n : Nat) : Nat := bitsF 12 n
theorem bitsF_step {i m : Nat} (hi : i < 12) : bitsF (12 - i) m = if m = 0 then i else bitsF (12 - (i + 1)) (m &&& (m - 1)) := by
  have : 12 - i = (12 - (i + 1)) + 1 := by omega
  rw [this, bitsF]
  have : 12 - (12 - (i + 1) + 1) = i := by omega
  rw [this]
def spBits : Sp := fun vs H Q _ => ∃ n : Nat, vs = [.int n] ∧ RetV (.int (bits n : Nat)) H Q
theorem sc_law_bits : FnScope ["_law_number", "_law_count"] ["_law_number"] (defScope (top 67)) := ⟨rfl, rfl, rfl, by decide +kernel, rfl, by decide +kernel, by decide +kernel⟩
theorem c_law_bits (F : FnP K "_law_bits" (top 67) f fd) (g : mg "_law_bits" = some (.ref f)) (B : Bi mg) : Cal P w K mg base 1 "_law_bits" spBits [] := by
  refine mkCal F g sc_law_bits (fun _ _ _ _ _ _ us hl => match us, hl with | [_], _ => rfl) (fun vs H Q E h => ?_) (fun cdv A outer s H vs Q E hr h => ?_)
  · obtain ⟨n, rfl, _⟩ := h
    rfl
  · obtain ⟨n, rfl, q⟩ := h
    refine ⟨_, (pss_cons (ps_for PassesOwn.never rfl (pi_range1 rfl B.range (pa_cons (pe_nat 12 pe_int) pa_nil)) (pg_name (i := 1) sc_law_bits.nd rfl (by first | exact Or.inl rfl | exact Or.inr rfl)) (pss_cons (ps_if (pt_cmpR on_eq (pv 0) (pe_nat 0 pe_int) (nomark _)) (pss_one (ps_ret (pv 1))) pss_nil) (pss_one (ps_set (i := 0) sc_law_bits.nd rfl (by first | exact Or.inl rfl | exact Or.inr rfl) (pe_op on_and (pv 0) (pe_op on_sub (pv 0) (pe_nat 1 pe_int))))))) (pss_one (ps_ret (pe_nat 12 pe_int)))), ?_⟩
    refine q_forR1 (n := 12) (ea_cons ev_c ea_nil) (by decide) (fun i σ H' => Ex H H' ∧ ∃ (m : Nat) (v : Option V), σ = [some (.int m), v] ∧ bitsF (12 - i) m = bits n) (fun H1 e => ⟨e, n, none, rfl, rfl⟩) ?_ ?_
    · rintro i σ H' hi ⟨e0, m, v, rfl, e⟩
      rw [bitsF_step (by omega)] at e
      refine q_when (et_test (ev_n (ev_v 0) ev_c)) (fun hb H1 e1 => ?_) (fun hb H1 e1 => ?_)
      · have hm : m = 0 := of_decide_eq_true hb
        rw [if_pos hm] at e
        refine s_ret (ev_v 1) fun H2 e2 => ?_
        show Q (.int (i : Nat)) H2
        rw [e]
        exact q H2 (e0.trans (e1.trans e2))
      · have hm : m ≠ 0 := of_decide_eq_false hb
        rw [if_neg hm] at e
        refine s_asg (ev_n (ev_v 0) (ev_nc (ev_v 0) ev_c (by omega))) (fun H2 e2 => ⟨e0.trans (e1.trans e2), _, _, rfl, e⟩)
    · rintro σ H' ⟨e0, m, v, rfl, e⟩
      refine s_ret ev_c fun H2 e2 => ?_
      show Q (.int (12 : Nat)) H2
      have : 12 = bits n := e
      rw [this]
      exact q H2 (e0.trans e2)
/-- the things of a mask -/
def lotF (n : Nat) : List Nat := (List.range 12).filter fun x => n.testBit x
theorem shr_and (n x : Nat) : (n >>> x) &&& 1 = (n.testBit x).toNat := by
  rw [Nat.testBit, Nat.and_one_is_mod, Nat.and_comm, Nat.and_one_is_mod]
  rcases Nat.mod_two_eq_zero_or_one (n >>> x) with h | h <;> rw [h] <;> rfl
def spLot : Sp := fun vs H Q _ => ∃ n : Nat, vs = [.int n] ∧ RetU (nv (lotF n)) H Q
theorem sc_law_lot : FnScope ["_law_number", "_law_thing"] ["_law_number"] (defScope (top 68)) := ⟨rfl, rfl, rfl, by decide +kernel, rfl, by decide +kernel, by decide +kernel⟩
theorem c_law_lot (F : FnP K "_law_lot" (top 68) f fd) (g : mg "_law_lot" = some (.ref f)) (B : Bi mg) : Cal P w K mg base 1 "_law_lot" spLot [] := by
  refine mkCal F g sc_law_lot (fun _ _ _ _ _ _ us hl => match us, hl with | [_], _ => rfl) (fun vs H Q E h => ?_) (fun cdv A outer s H vs Q E hr h => ?_)
  · obtain ⟨n, rfl, _⟩ := h
    rfl
  · obtain ⟨n, rfl, q⟩ := h
    refine ⟨_, (pss_one (ps_ret (pe_callTy call_tuple_of (by rfl) B.tuple (by decide +kernel) (pa_cons (pe_lc (own := [("_law_thing", 1)]) (g := gName 1) (by rfl) sc_law_lot.nd (pi_range1 rfl B.range (pa_cons (pe_nat 12 pe_int) pa_nil)) (blkOk_by (own := [("_law_thing", 1)]) (N := ["_law_number", "_law_thing"]) (sc := defScope (top 68)) (by decide +kernel)) (fun _ _ _ _ _ => (pg_name (i := 1) sc_law_lot.nd rfl (by first | exact Or.inl rfl | exact Or.inr rfl))) (fun _ _ _ _ _ => (pts_one (pt_cmpR on_eq (pe_op on_and (pe_op on_shr (pv 0) (pv 1)) (pe_nat 1 pe_int)) (pe_nat 1 pe_int) (nomark _)))) (fun _ _ _ _ _ => (pv 1))) pa_nil)))), ?_⟩
    refine s_retU (eu_tupOf (el_rng (n := 12) (fun i => decide ((n >>> i) &&& 1 = 1)) (fun i => .int (i : Nat)) (ea_cons ev_c ea_nil) (by decide) (fun _ => rfl) (fun i H1 e hi => et_test (ev_n (ev_n (ev_n (ev_v 0) (ev_v 1)) ev_c) ev_c)) (fun i H1 e hi hf => ev_v 1))) fun p H1 hp e h1 => q p H1 hp e ?_
    rw [h1]
    unfold nv lotF
    congr 4
    funext x
    rw [shr_and]
    cases n.testBit x <;> rfl
def numF (ns : List Nat) : Nat := ns.foldl (fun a x => a + (1 <<< x)) 0
def spNum : Sp := fun vs H Q _ => ∃ (p : Addr) (ns : List Nat), vs = [.ref p] ∧ SqT K H p (nv ns) ∧ (∀ n ∈ ns, n < 64) ∧ RetV (.int (numF ns : Nat)) H Q
end
end W7
end
section
namespace W7
open PySem PySem.Spec PyProof.Rows L2 L3 Evl
open C8 (Cal pe_c Mak pe_mk Met pe_mt pe_mt0)
section
variable {K : PySem.W.Frag} {σ : L2.St} {H H' : Hp} {ta tb tc te tl : TE} {v : V} {t : TT}
theorem ev_chainN {g g' : Nat → Nat → Bool} {a b c : Nat} (ha : Ev ta σ H (.int (a : Nat))) (hb : Ev tb σ H (.int (b : Nat))) (hc : Ev tc σ H (.int (c : Nat))) :
    Ev (tChain (rN0 fun a b => .bl (g a b)) (rN0 fun a b => .bl (g' a b)) ta tb tc) σ H (.bl (g a b && g' b c)) := fun H1 e Q q => ha H1 e _ fun H2 e2 => hb H2 (e.trans e2) _ fun H3 e3 => ⟨a, b, rfl, rfl, g a b, rfl, by
  cases h : g a b with
  | true => exact hc H3 ((e.trans e2).trans e3) _ fun H4 e4 => ⟨b, c, rfl, rfl, by have := q H4 ((e2.trans e3).trans e4); rw [h] at this; exact this⟩
  | false => have := q H3 (e2.trans e3); rw [h] at this; exact this⟩
end
section
variable {P : Program} {w : World} {K : PySem.W.Frag} {mg : Str → Option Value} {base : Heap} {f : Addr} {fd : FuncData}
def spLots (K : PySem.W.Frag) : Sp := fun vs H Q _ => ∃ (p : Addr) (ms : List Nat), vs = [.ref p] ∧ SqL K H p (nv ms) ∧ ms.length ≤ 64 ∧ ∀ L : List (List Nat), L.Perm (ms.map lotF) → L.Pairwise lexLe → RetLots L H Q
theorem sc_law_lots : FnScope ["_law_masks", "_law_number"] ["_law_masks"] (defScope (top 69)) := ⟨rfl, rfl, rfl, by decide +kernel, rfl, by decide +kernel, by decide +kernel⟩
theorem c_law_lots (F : FnP K "_law_lots" (top 69) f fd) (g : mg "_law_lots" = some (.ref f)) (B : Bi mg) (c_law_lot : Cal P w K mg base 1 "_law_lot" spLot []) : Cal P w K mg base 2 "_law_lots" (spLots K) [] := by
  refine mkCal F g sc_law_lots (fun _ _ _ _ _ _ us hl => match us, hl with | [_], _ => rfl) (fun vs H Q E h => ?_) (fun cdv A outer s H vs Q E hr h => ?_)
  · obtain ⟨p, ms, rfl, _⟩ := h
    rfl
  · obtain ⟨p, ms, rfl, hs, hz, q⟩ := h
    refine ⟨_, (pss_one (ps_ret (pe_callB (cr_sortLots hr.units) (by rfl) B.sorted (by decide +kernel) (pa_cons (pe_lc (own := [("_law_number", 1)]) (g := gName 1) (by rfl) sc_law_lots.nd (pi_list (pv 0)) (blkOk_by (own := [("_law_number", 1)]) (N := ["_law_masks", "_law_number"]) (sc := defScope (top 69)) (by decide +kernel)) (fun _ _ _ _ _ => (pg_name (i := 1) sc_law_lots.nd rfl (by first | exact Or.inl rfl | exact Or.inr rfl))) (fun _ _ _ _ _ => pts_nil) (fun _ _ _ _ _ => (pe_c c_law_lot hr (by decide) rfl (pa_cons (pv 1) pa_nil)))) pa_nil)))), ?_⟩
    refine el_sortLots (el_lots lotF (ev_v 0) hs (by omega) (fun _ => rfl) (fun n H1 e hn => eu_call (ea_cons (ev_v 1) ea_nil) (fun H2 e2 Q2 q2 E2 => ⟨n, rfl, q2⟩))) H (Ex.refl H) _ (fun M h1 h2 => q M h1 h2)
def insF (size : Nat) (ms : List Nat) : List Bool := (List.range (1 <<< size)).map fun n => decide (n ∈ ms)
def spIns (K : PySem.W.Frag) : Sp := fun vs H Q _ => ∃ (size : Nat) (p : Addr) (ms : List Nat), vs = [.int size, .ref p] ∧ SqL K H p (nv ms) ∧ size ≤ 6 ∧ (∀ m ∈ ms, m < 1 <<< size) ∧ RetL (bv (insF size ms)) H Q
theorem pow64 {n : Nat} (h : n ≤ 6) : 1 <<< n ≤ 64 := by
  match n, h with
  | 0, _ | 1, _ | 2, _ | 3, _ | 4, _ | 5, _ | 6, _ => decide
  | n + 7, h => omega
theorem map_set {n m : Nat} {f g : Nat → Bool} (hm : m < n) (h : ∀ i, g i = (if i = m then true else f i)) : (bv ((List.range n).map f)).set m (.bl true) = bv ((List.range n).map g) := by
  unfold bv
  simp only [List.map_map]
  apply List.ext_getElem?
  intro i
  rw [List.getElem?_set, List.getElem?_map, List.getElem?_map]
  simp only [List.length_range, List.length_map]
  by_cases hi : m = i
  · subst hi
    rw [if_pos rfl, if_pos hm, List.getElem?_range hm]
    simp [h]
  · rw [if_neg hi]
    by_cases h2 : i < n
    · rw [List.getElem?_range h2]
      have : ¬ i = m := fun e => hi e.symm
      simp [h, this]
    · rw [List.getElem?_eq_none (by simp; omega)]
      rfl
theorem sc_law_inside : FnScope ["_law_size", "_law_masks", "_law_row", "_law_number"] ["_law_size", "_law_masks"] (defScope (top 70)) := ⟨rfl, rfl, rfl, by decide +kernel, rfl, by decide +kernel, by decide +kernel⟩
theorem c_law_inside (F : FnP K "_law_inside" (top 70) f fd) (g : mg "_law_inside" = some (.ref f)) (B : Bi mg) : Cal P w K mg base 1 "_law_inside" (spIns K) [] := by
  refine mkCal F g sc_law_inside (fun _ _ _ _ _ _ us hl => match us, hl with | [_, _], _ => rfl) (fun vs H Q E h => ?_) (fun cdv A outer s H vs Q E hr h => ?_)
  · obtain ⟨size, p, ms, rfl, _⟩ := h
    rfl
  · obtain ⟨size, p, ms, rfl, hs, hz, hb, q⟩ := h
    have h64 := pow64 hz
    refine ⟨_, (pss_cons (ps_setLc (i := 2) (own := [("_law_number", 3)]) (g := gName 3) (by rfl) sc_law_inside.nd rfl rfl (sw_true rfl rfl rfl (by decide +kernel)) (pi_range1 rfl B.range (pa_cons (pe_op on_shl (pe_nat 1 pe_int) (pv 0)) pa_nil)) (blkOk_by (own := [("_law_number", 3)]) (N := ["_law_size", "_law_masks", "_law_row", "_law_number"]) (sc := defScope (top 70)) (by decide +kernel)) (fun _ _ _ _ _ => (pg_name (i := 3) sc_law_inside.nd rfl (by first | exact Or.inl rfl | exact Or.inr rfl))) (fun _ _ _ _ _ => pts_nil) (fun _ _ _ _ _ => pe_bl)) (pss_cons (ps_for PassesOwn.never rfl (pi_list (pv 1)) (pg_name (i := 3) sc_law_inside.nd rfl (by first | exact Or.inl rfl | exact Or.inr rfl)) (pss_one (ps_asg pe_bl (pg_sub (pv 2) (pv 3) set_list)))) (pss_one (ps_ret (pv 2))))), ?_⟩
    refine q_asgL (el_rng (n := 1 <<< size) (fun _ => true) (fun _ => .bl false) (ea_cons (ev_nc ev_c (ev_v 0) ⟨by decide, by omega⟩) ea_nil) (by omega) (fun _ => rfl) (fun _ _ _ _ => et_yes) (fun _ _ _ _ _ => ev_c)) fun r H1 hr1 e1 h1 => ?_
    refine q_forLN (ev_v 1) hs e1 (fun i σ H' => Ex H H' ∧ H' r = some (.lst (bv ((List.range (1 <<< size)).map fun n => decide (n ∈ ms.take i)))) ∧ ∃ v, σ = [some (.int size), some (.ref p), some (.ref r), v]) (fun H2 e2 => ⟨e1.trans e2, ?_, _, rfl⟩) (fun i σ H' h => h.1) ?_ ?_
    · rw [e2 _ _ h1]
      unfold bv
      rw [List.map_map, List.filter_eq_self.mpr (fun _ _ => rfl)]
      refine congrArg some (congrArg HO.lst (List.map_congr_left fun a _ => ?_))
      simp
    · rintro i n σ H' hn ⟨e0, h2, v, rfl⟩
      have hn1 := hb n (List.mem_of_getElem? hn)
      refine s_setL h2 ev_c (ev_v 2) (ev_v 3) (by rw [bv_len, List.length_map, List.length_range]; exact hn1) fun H3 e3 => ⟨Ex.mut (e0.trans e3) hr1, ?_, some (.int n), rfl⟩
      rw [upd_same]
      congr 2
      refine map_set hn1 fun k => ?_
      rw [List.take_add_one, hn]
      by_cases hk : k = n
      · simp [hk]
      · simp [hk]
    · rintro σ H' ⟨e0, h2, v, rfl⟩
      rw [List.take_length] at h2
      refine s_ret (ev_v 2) fun H3 e3 => q r H3 hr1 (e0.trans e3) (e3 _ _ h2)
def listF (bs : List Bool) : List Nat := (List.range bs.length).filter fun i => bs.getD i false
def spListed (K : PySem.W.Frag) : Sp := fun vs H Q _ => ∃ (p : Addr) (bs : List Bool), vs = [.ref p] ∧ SqL K H p (bv bs) ∧ bs.length ≤ 64 ∧ RetL (nv (listF bs)) H Q
theorem bv_get {bs : List Bool} {i : Nat} (h : i < bs.length) : (bv bs)[i]? = some (.bl (bs.getD i false)) := by
  unfold bv
  rw [List.getElem?_map, List.getD, (List.getElem?_eq_some_iff.mpr ⟨h, rfl⟩ : bs[i]? = some bs[i])]
  rfl
theorem sc_law_listed : FnScope ["_law_row", "_law_number"] ["_law_row"] (defScope (top 71)) := ⟨rfl, rfl, rfl, by decide +kernel, rfl, by decide +kernel, by decide +kernel⟩
theorem c_law_listed (F : FnP K "_law_listed" (top 71) f fd) (g : mg "_law_listed" = some (.ref f)) (B : Bi mg) : Cal P w K mg base 1 "_law_listed" (spListed K) [] := by
  refine mkCal F g sc_law_listed (fun _ _ _ _ _ _ us hl => match us, hl with | [_], _ => rfl) (fun vs H Q E h => ?_) (fun cdv A outer s H vs Q E hr h => ?_)
  · obtain ⟨p, bs, rfl, _⟩ := h
    rfl
  · obtain ⟨p, bs, rfl, hs, hz, q⟩ := h
    refine ⟨_, (pss_one (ps_ret (pe_lc (own := [("_law_number", 1)]) (g := gName 1) (by rfl) sc_law_listed.nd (pi_range1 rfl B.range (pa_cons (pe_callB call_len_seq (by rfl) B.len (by decide +kernel) (pa_cons (pv 0) pa_nil)) pa_nil)) (blkOk_by (own := [("_law_number", 1)]) (N := ["_law_row", "_law_number"]) (sc := defScope (top 71)) (by decide +kernel)) (fun _ _ _ _ _ => (pg_name (i := 1) sc_law_listed.nd rfl (by first | exact Or.inl rfl | exact Or.inr rfl))) (fun _ _ _ _ _ => (pts_one (pt_val (pe_ix (on_ix (K := K)) (pv 0) (pv 1) (fun _ _ => rfl))))) (fun _ _ _ _ _ => (pv 1))))), ?_⟩
    refine s_retL (el_rng (n := bs.length) (fun i => bs.getD i false) (fun i => .int (i : Nat)) (ea_cons (ev_is (ev_len (ev_v 0) hs) (by rw [bv_len])) ea_nil) (by omega) (fun _ => rfl) (fun i H1 e hi => et_B (ev_ix (ex_l e hs) (ev_v 0) (ev_v 1) (bv_get hi))) (fun i H1 e hi _ => ev_v 1)) q
def sizedF (size low top : Nat) : List Nat := (List.range (1 <<< size)).filter fun n => decide (low ≤ bits n) && decide (bits n ≤ top)
def spSized : Sp := fun vs H Q _ => ∃ (size low top : Nat), vs = [.int size, .int low, .int top] ∧ size ≤ 6 ∧ RetL (nv (sizedF size low top)) H Q
theorem sc_law_sized : FnScope ["_law_size", "_law_low", "_law_top", "_law_row", "_law_number"] ["_law_size", "_law_low", "_law_top"] (defScope (top 72)) := ⟨rfl, rfl, rfl, by decide +kernel, rfl, by decide +kernel, by decide +kernel⟩
theorem c_law_sized (F : FnP K "_law_sized" (top 72) f fd) (g : mg "_law_sized" = some (.ref f)) (B : Bi mg) (c_law_bits : Cal P w K mg base 1 "_law_bits" spBits []) (c_law_listed : Cal P w K mg base 1 "_law_listed" (spListed K) []) : Cal P w K mg base 2 "_law_sized" spSized [] := by
  refine mkCal F g sc_law_sized (fun _ _ _ _ _ _ us hl => match us, hl with | [_, _, _], _ => rfl) (fun vs H Q E h => ?_) (fun cdv A outer s H vs Q E hr h => ?_)
  · obtain ⟨size, low, tp, rfl, _⟩ := h
    rfl
  · obtain ⟨size, low, tp, rfl, hz, q⟩ := h
    have h64 := pow64 hz
    refine ⟨_, (pss_cons (ps_setLc (i := 3) (own := [("_law_number", 4)]) (g := gName 4) (by rfl) sc_law_sized.nd rfl rfl (sw_true rfl rfl rfl (by decide +kernel)) (pi_range1 rfl B.range (pa_cons (pe_op on_shl (pe_nat 1 pe_int) (pv 0)) pa_nil)) (blkOk_by (own := [("_law_number", 4)]) (N := ["_law_size", "_law_low", "_law_top", "_law_row", "_law_number"]) (sc := defScope (top 72)) (by decide +kernel)) (fun _ _ _ _ _ => (pg_name (i := 4) sc_law_sized.nd rfl (by first | exact Or.inl rfl | exact Or.inr rfl))) (fun _ _ _ _ _ => pts_nil) (fun _ _ _ _ _ => (pe_chain on_le on_le (pv 1) (pe_c c_law_bits hr (by decide) rfl (pa_cons (pv 4) pa_nil)) (pv 2)))) (pss_one (ps_ret (pe_c c_law_listed hr (by decide) rfl (pa_cons (pv 3) pa_nil))))), ?_⟩
    refine q_asgL (el_rng (n := 1 <<< size) (fun _ => true) (fun n => .bl (decide (low ≤ bits n) && decide (bits n ≤ tp))) (ea_cons (ev_nc ev_c (ev_v 0) ⟨by decide, by omega⟩) ea_nil) (by omega) (fun _ => rfl) (fun _ _ _ _ => et_yes) (fun n H1 e hn _ => ev_chainN (g := fun a b => decide (a ≤ b)) (g' := fun a b => decide (a ≤ b)) (ev_v 1) (ev_call (ea_cons (ev_v 4) ea_nil) (fun H2 e2 Q2 q2 E2 => ⟨n, rfl, q2⟩)) (ev_v 2))) fun r H1 hr1 e1 h1 => ?_
    refine s_retL (el_call (ea_cons (ev_v 3) ea_nil) (fun H2 e2 Q2 q2 E2 => ⟨r, (List.range (1 <<< size)).map fun n => decide (low ≤ bits n) && decide (bits n ≤ tp), rfl, sq_of ?_, by simp; omega, q2⟩)) fun p H2 hp e2 h2 => q p H2 (fresh_back e1 hp) (e1.trans e2) ?_
    · rw [e2 _ _ h1]
      unfold bv
      rw [List.map_map, List.filter_eq_self.mpr (fun _ _ => rfl)]
      rfl
    · rw [h2]
      unfold listF sizedF
      congr 3
      simp only [List.length_range, List.length_map]
      refine List.filter_congr fun n hn => ?_
      rw [List.getD, List.getElem?_map, List.getElem?_range (List.mem_range.mp hn)]
      rfl
end
end W7
end
section
namespace W7
open PySem PySem.Spec PyProof.Rows L2 L3 Evl
open C8 (Cal pe_c Mak pe_mk Met pe_mt pe_mt0)
section
variable {P : Program} {w : World} {K : PySem.W.Frag} {mg : Str → Option Value} {base : Heap} {f : Addr} {fd : FuncData}
/-- turned: any ascending row of the same masks -/
def spTurned (K : PySem.W.Frag) : Sp := fun vs H Q _ => ∃ (p : Addr) (ms : List Nat) (t : Nat), vs = [.ref p, .int t] ∧ SqL K H p (nv ms) ∧ ms.length ≤ 64 ∧ ∀ M : List Nat, M.Perm (ms.map fun m => m ^^^ t) → M.Pairwise (· ≤ ·) → RetL (nv M) H Q
theorem map_all {α β : Type} {f : α → β} {ns : List α} : (ns.filter fun _ => true).map f = ns.map f := by rw [List.filter_eq_self.mpr (fun _ _ => rfl)]
theorem sc_law_turned : FnScope ["_law_masks", "_law_lot_here", "_law_number"] ["_law_masks", "_law_lot_here"] (defScope (top 75)) := ⟨rfl, rfl, rfl, by decide +kernel, rfl, by decide +kernel, by decide +kernel⟩
theorem c_law_turned (F : FnP K "_law_turned" (top 75) f fd) (g : mg "_law_turned" = some (.ref f)) (B : Bi mg) : Cal P w K mg base 1 "_law_turned" (spTurned K) [] := by
  refine mkCal F g sc_law_turned (fun _ _ _ _ _ _ us hl => match us, hl with | [_, _], _ => rfl) (fun vs H Q E h => ?_) (fun cdv A outer s H vs Q E hr h => ?_)
  · obtain ⟨p, ms, t, rfl, _⟩ := h
    rfl
  · obtain ⟨p, ms, t, rfl, hs, hz, q⟩ := h
    refine ⟨_, (pss_one (ps_ret (pe_callB cr_sortedI (by rfl) B.sorted (by decide +kernel) (pa_cons (pe_lc (own := [("_law_number", 2)]) (g := gName 2) (by rfl) sc_law_turned.nd (pi_list (pv 0)) (blkOk_by (own := [("_law_number", 2)]) (N := ["_law_masks", "_law_lot_here", "_law_number"]) (sc := defScope (top 75)) (by decide +kernel)) (fun _ _ _ _ _ => (pg_name (i := 2) sc_law_turned.nd rfl (by first | exact Or.inl rfl | exact Or.inr rfl))) (fun _ _ _ _ _ => pts_nil) (fun _ _ _ _ _ => (pe_op on_xor (pv 2) (pv 1)))) pa_nil)))), ?_⟩
    have e := el_nats (K := K) (te := tOp (rN0 fun a b => .int ((a ^^^ b : Nat) : Int)) (tVar 2) (tVar 1)) (t := tYes) (tl := tVar 0) (j := 2) (vs := [2]) (σ := [some (.ref p), some (.int t), none]) (fun _ => true) (fun m => .int ((m ^^^ t : Nat) : Int)) (ev_v 0) hs (by omega) (fun _ => rfl) (fun _ _ _ _ => et_yes) (fun m H1 e hm _ => ev_n (ev_v 2) (ev_v 1))
    rw [map_all] at e
    have e2 : EvL (tLc (iList K (tVar 0)) (gName 2) tYes (tOp (rN0 fun a b => .int ((a ^^^ b : Nat) : Int)) (tVar 2) (tVar 1)) [2]) [some (.ref p), some (.int t), none] H (nv (ms.map fun m => m ^^^ t)) := by
      unfold nv; rw [List.map_map]; exact e
    refine el_sortI e2 H (Ex.refl H) _ (fun M l H2 h1 h2 hl e3 h3 => q M h1 h2 l H2 hl e3 h3)
def joinF (size : Nat) (ms os : List Nat) : List Nat := listF ((List.range (1 <<< size)).map fun n => decide (∃ m ∈ ms, ∃ o ∈ os, n = m ^^^ o))
def spJoined (K : PySem.W.Frag) : Sp := fun vs H Q _ => ∃ (size : Nat) (p p2 : Addr) (ms os : List Nat), vs = [.int size, .ref p, .ref p2] ∧ SqL K H p (nv ms) ∧ SqL K H p2 (nv os) ∧ size ≤ 6 ∧ (∀ m ∈ ms, m < 1 <<< size) ∧ (∀ m ∈ os, m < 1 <<< size) ∧ RetL (nv (joinF size ms os)) H Q
theorem xor_lt_sh {a b n : Nat} (ha : a < 1 <<< n) (hb : b < 1 <<< n) : a ^^^ b < 1 <<< n := by
  rw [Nat.one_shiftLeft] at *
  exact Nat.xor_lt_two_pow ha hb
theorem sc_law_joined : FnScope ["_law_size", "_law_masks", "_law_other", "_law_row", "_law_number", "_law_more"] ["_law_size", "_law_masks", "_law_other"] (defScope (top 76)) := ⟨rfl, rfl, rfl, by decide +kernel, rfl, by decide +kernel, by decide +kernel⟩
theorem c_law_joined (F : FnP K "_law_joined" (top 76) f fd) (g : mg "_law_joined" = some (.ref f)) (B : Bi mg) (c_law_inside : Cal P w K mg base 1 "_law_inside" (spIns K) []) (c_law_listed : Cal P w K mg base 1 "_law_listed" (spListed K) []) : Cal P w K mg base 2 "_law_joined" (spJoined K) [] := by
  refine mkCal F g sc_law_joined (fun _ _ _ _ _ _ us hl => match us, hl with | [_, _, _], _ => rfl) (fun vs H Q E h => ?_) (fun cdv A outer s H vs Q E hr h => ?_)
  · obtain ⟨size, p, p2, ms, os, rfl, _⟩ := h
    rfl
  · obtain ⟨size, p, p2, ms, os, rfl, hs, hs2, hz, hb, hb2, q⟩ := h
    have h64 := pow64 hz
    refine ⟨_, (pss_cons (ps_set (i := 3) sc_law_joined.nd rfl (by first | exact Or.inl rfl | exact Or.inr rfl) (pe_c c_law_inside hr (by decide) rfl (pa_cons (pv 0) (pa_cons (pe_lst pa_nil) pa_nil)))) (pss_cons (ps_for PassesOwn.never rfl (pi_list (pv 1)) (pg_name (i := 4) sc_law_joined.nd rfl (by first | exact Or.inl rfl | exact Or.inr rfl)) (pss_one (ps_for PassesOwn.never rfl (pi_list (pv 2)) (pg_name (i := 5) sc_law_joined.nd rfl (by first | exact Or.inl rfl | exact Or.inr rfl)) (pss_one (ps_asg pe_bl (pg_sub (pv 3) (pe_op on_xor (pv 4) (pv 5)) set_list)))))) (pss_one (ps_ret (pe_c c_law_listed hr (by decide) rfl (pa_cons (pv 3) pa_nil)))))), ?_⟩
    have e0 : EvL (tCall (spIns K) [] E0 (tCons (tVar 0) (tCons (tLst tNil) tNil))) [some (.int size), some (.ref p), some (.ref p2), none, none, none] H (bv (insF size [])) := fun H1 e1 Q1 q1 => by
      refine ⟨.int size, rfl, by decide, fun l hl => ?_⟩
      exact ⟨size, l, [], rfl, sq_of upd_same, hz, (fun m hm => by cases hm), fun r H4 hr4 e4 h4 => q1 r H4 (fresh_back (Ex.new hl) hr4) ((Ex.new hl).trans e4) h4⟩
    refine q_asgL e0 fun r H1 hr1 e1 h1 => ?_
    refine q_forLN (ev_v 1) hs e1 (fun i σ H' => Ex H H' ∧ H' r = some (.lst (bv ((List.range (1 <<< size)).map fun n => decide (∃ m ∈ ms.take i, ∃ o ∈ os, n = m ^^^ o)))) ∧ ∃ v v2, σ = [some (.int size), some (.ref p), some (.ref p2), some (.ref r), v, v2]) (fun H2 e2 => ⟨e1.trans e2, ?_, _, _, rfl⟩) (fun i σ H' h => h.1) ?_ ?_
    · rw [e2 _ _ h1]
      unfold insF
      refine congrArg some (congrArg HO.lst (congrArg bv (List.map_congr_left fun a _ => ?_)))
      simp
    · rintro i n σ H' hn ⟨e0, h2, v, v2, rfl⟩
      have hn1 := hb n (List.mem_of_getElem? hn)
      refine s_forLN (ev_v 2) hs2 e0 (fun k σ H' => Ex H H' ∧ H' r = some (.lst (bv ((List.range (1 <<< size)).map fun a => decide ((∃ m ∈ ms.take i, ∃ o ∈ os, a = m ^^^ o) ∨ ∃ o ∈ os.take k, a = n ^^^ o)))) ∧ ∃ v2, σ = [some (.int size), some (.ref p), some (.ref p2), some (.ref r), some (.int n), v2]) (fun H2 e2 => ⟨e0.trans e2, ?_, _, rfl⟩) (fun i σ H' h => h.1) ?_ ?_
      · rw [e2 _ _ h2]
        refine congrArg some (congrArg HO.lst (congrArg bv (List.map_congr_left fun a _ => ?_)))
        simp
      · rintro k o σ H' ho ⟨e3, h3, v3, rfl⟩
        have ho1 := hb2 o (List.mem_of_getElem? ho)
        have hx := xor_lt_sh hn1 ho1
        refine s_setL h3 ev_c (ev_v 3) (ev_n (ev_v 4) (ev_v 5)) (by rw [bv_len, List.length_map, List.length_range]; exact hx) fun H4 e4 => ⟨Ex.mut (e3.trans e4) hr1, ?_, some (.int o), rfl⟩
        rw [upd_same]
        refine congrArg some (congrArg HO.lst (map_set hx fun a => ?_))
        rw [List.take_add_one, ho, Option.toList_some]
        by_cases hk : a = n ^^^ o
        · rw [if_pos hk]
          exact decide_eq_true (.inr ⟨o, by simp, hk⟩)
        · rw [if_neg hk]
          congr 1
          simp only [List.mem_append, List.mem_singleton, eq_iff_iff]
          constructor
          · rintro (h | ⟨o', h | h, e⟩)
            · exact .inl h
            · exact .inr ⟨o', h, e⟩
            · exact absurd (h ▸ e) hk
          · rintro (h | ⟨o', h, e⟩)
            · exact .inl h
            · exact .inr ⟨o', .inl h, e⟩
      · rintro σ H' ⟨e3, h3, v3, rfl⟩
        refine ⟨e3, ?_, _, _, rfl⟩
        rw [h3, List.take_length]
        refine congrArg some (congrArg HO.lst (congrArg bv (List.map_congr_left fun a _ => ?_)))
        congr 1
        rw [List.take_add_one, hn, Option.toList_some]
        simp only [List.mem_append, List.mem_singleton, eq_iff_iff]
        constructor
        · rintro (⟨m, h, e⟩ | h)
          · exact ⟨m, .inl h, e⟩
          · exact ⟨n, .inr rfl, h⟩
        · rintro ⟨m, h | h, e⟩
          · exact .inl ⟨m, h, e⟩
          · exact .inr (h ▸ e)
    · rintro σ H' ⟨e3, h2, v, v2, rfl⟩
      rw [List.take_length] at h2
      refine s_retL (el_call (ea_cons (ev_v 3) ea_nil) (fun H2 e2 Q2 q2 E2 => ⟨r, _, rfl, sq_of (e2 _ _ h2), by simp; omega, q2⟩)) fun l H2 hl e2 h3 => q l H2 (fresh_back e3 hl) (e3.trans e2) h3
def nearF (ms : List Nat) (t : Nat) : List Nat := ms.filter fun m => decide (bits (m ^^^ t) = mn (ms.map fun n => bits (n ^^^ t)))
def farF (ms : List Nat) (t : Nat) : List Nat := ms.filter fun m => decide (bits (m ^^^ t) = mx (ms.map fun n => bits (n ^^^ t)))
def spNear (K : PySem.W.Frag) (R : List Nat → Nat → List Nat) : Sp := fun vs H Q _ => ∃ (p : Addr) (ms : List Nat) (t : Nat), vs = [.ref p, .int t] ∧ SqL K H p (nv ms) ∧ ms.length ≤ 64 ∧ ms ≠ [] ∧ RetL (nv (R ms t)) H Q
theorem nv_map {ms : List Nat} {g : Nat → Nat} : nv (ms.map g) = (ms.filter fun _ => true).map fun m => V.int ((g m : Nat) : Int) := by rw [map_all]; unfold nv; rw [List.map_map]; rfl
def basesF (ms : List Nat) (t : Nat) : List Nat := (nearF ms t).map fun m => m ^^^ t
end
end W7
end
section
namespace W7
open PySem PySem.Spec PyProof.Rows L2 L3 Evl
open C8 (Cal pe_c Mak pe_mk Met pe_mt pe_mt0)
section
variable {K : PySem.W.Frag} {σ : L2.St} {H H' H1 H2 : Hp} {a : Addr} {ta tb tc te tl tm : TE} {v : V} {t : TT} {D : Ends} {tz : TS}
def DrawsAt (H : Hp) (a : Addr) : Prop := ∃ xs : List Int, H a = some (.lst (xs.map V.int))
structure SB (a : Addr) (H H' : Hp) : Prop where
  kp : ∀ b o, b ≠ a → H b = some o → H' b = some o
  dr : DrawsAt H' a
theorem SB.refl (h : DrawsAt H a) : SB a H H := ⟨fun _ _ _ e => e, h⟩
theorem SB.trans (s : SB a H H1) (t : SB a H1 H2) : SB a H H2 := ⟨fun b o n e => t.kp b o n (s.kp b o n e), t.dr⟩
theorem DrawsAt.ex (h : DrawsAt H a) (e : Ex H H') : DrawsAt H' a := h.elim fun xs z => ⟨xs, e _ _ z⟩
theorem SB.of (h : DrawsAt H a) (e : Ex H H') : SB a H H' := ⟨fun b o _ z => e b o z, h.ex e⟩
theorem SB.ex (s : SB a H H1) (e : Ex H1 H2) : SB a H H2 := s.trans (.of s.dr e)
theorem SB.tup (s : SB a H H') (h : DrawsAt H a) {p : Addr} {xs : List V} (e : H p = some (.tup xs)) : H' p = some (.tup xs) := s.kp p _ (fun h2 => by obtain ⟨ys, h⟩ := h; rw [h2, h] at e; cases e) e
theorem SB.ne (h : DrawsAt H a) {p : Addr} (e : H p = none) : p ≠ a := fun h2 => by obtain ⟨ys, h⟩ := h; rw [h2, h] at e; cases e
theorem TupV.sb {r : V} {ns : List Nat} (h : TupV H r ns) (d : DrawsAt H a) (s : SB a H H') : TupV H' r ns := h.elim fun t z => ⟨t, z.1, s.tup d z.2⟩
theorem Lots.sb {rs : List V} {L : List (List Nat)} (h : Lots H rs L) (d : DrawsAt H a) (s : SB a H H') : Lots H' rs L := ⟨h.1, fun i r ns x y => (h.2 i r ns x y).sb d s⟩
/-- a value drawn or reckoned out of drawn ones -/
def EvR (a : Addr) (te : TE) (σ : L2.St) (p : Nat → Prop) : Prop := ∀ H1, DrawsAt H1 a → ∀ Q : VK, (∀ (n : Nat) H2, p n → SB a H1 H2 → Q (.int (n : Nat)) H2) → te σ H1 Q
theorem er_v (i : Nat) {n : Nat} (h : σ[i]? = some (some (.int (n : Nat))) := by rfl) : EvR a (tVar i) σ (· = n) := fun H1 d Q q => ⟨_, h, q n H1 rfl (.refl d)⟩
theorem er_c {n : Nat} : EvR a (tC (.int (n : Nat))) σ (· = n) := fun H1 d Q q => q n H1 rfl (.refl d)
theorem er_n {g : Nat → Nat → Nat} {p q : Nat → Prop} (ha : EvR a ta σ p) (hb : EvR a tb σ q) : EvR a (tOp (rN0 fun x y => .int ((g x y : Nat) : Int)) ta tb) σ (fun z => ∃ x y, p x ∧ q y ∧ z = g x y) := fun H1 d Q k =>
  ha H1 d _ fun x H2 hx s2 => hb H2 s2.dr _ fun y H3 hy s3 => ⟨x, y, rfl, rfl, k _ H3 ⟨x, y, hx, hy, rfl⟩ (s2.trans s3)⟩
theorem er_nc {C : Nat → Nat → Prop} {g : Nat → Nat → Nat} {p q : Nat → Prop} (ha : EvR a ta σ p) (hb : EvR a tb σ q) (hc : ∀ x y, p x → q y → C x y) : EvR a (tOp (rN C fun x y => .int ((g x y : Nat) : Int)) ta tb) σ (fun z => ∃ x y, p x ∧ q y ∧ z = g x y) := fun H1 d Q k =>
  ha H1 d _ fun x H2 hx s2 => hb H2 s2.dr _ fun y H3 hy s3 => ⟨x, y, rfl, rfl, hc x y hx hy, k _ H3 ⟨x, y, hx, hy, rfl⟩ (s2.trans s3)⟩
theorem er_w {p q : Nat → Prop} (h : EvR a te σ p) (w : ∀ n, p n → q n) : EvR a te σ q := fun H1 d Q k => h H1 d Q fun n H2 hn => k n H2 (w n hn)
/-- take -/
def spTake : Sp := fun vs H Q _ => ∃ (a : Addr) (many : Nat), vs = [.ref a, .int many] ∧ 0 < many ∧ DrawsAt H a ∧ ∀ (r : Nat) H', r < many → SB a H H' → Q (.int r) H'
theorem er_take {p : Nat → Prop} {E : XK} (i : Nat) (hm : EvR a tm σ p) (hp : ∀ n, p n → 0 < n) (h : σ[i]? = some (some (.ref a)) := by rfl) : EvR a (tCall spTake [] E (tCons (tVar i) (tCons tm tNil))) σ (fun r => ∃ n, p n ∧ r < n) := fun H1 d Q q =>
  ⟨_, h, hm H1 d _ fun n H2 hn s2 => ⟨a, n, rfl, hp n hn, s2.dr, fun r H3 hr s3 => q r H3 ⟨n, hn, hr⟩ (s2.trans s3)⟩⟩
theorem r_asg {i : Nat} {p : Nat → Prop} (d : DrawsAt H a) (h : EvR a te σ p) (k : ∀ (n : Nat) H1, p n → SB a H H1 → tz D (σ.set i (some (.int (n : Nat)))) H1) : tSeq (tAsg te (gName i)) tz D σ H := h H d _ fun n H1 hn s => k n H1 hn s
theorem r_asg1 {i : Nat} {p : Nat → Prop} (d : DrawsAt H a) (h : EvR a te σ p) (k : ∀ (n : Nat) H1, p n → SB a H H1 → D.nx (σ.set i (some (.int (n : Nat)))) H1) : tAsg te (gName i) D σ H := h H d _ fun n H1 hn s => k n H1 hn s
end
section
variable {P : Program} {w : World} {K : PySem.W.Frag} {mg : Str → Option Value} {base : Heap} {f : Addr} {fd : FuncData}
theorem sc_law_take : FnScope ["_law_draws_here", "_law_many"] ["_law_draws_here", "_law_many"] (defScope (top 66)) := ⟨rfl, rfl, rfl, by decide +kernel, rfl, by decide +kernel, by decide +kernel⟩
theorem c_law_take (F : FnP K "_law_take" (top 66) f fd) (g : mg "_law_take" = some (.ref f)) (B : Bi mg) : Cal P w K mg base 1 "_law_take" spTake [] := by
  refine mkCal F g sc_law_take (fun _ _ _ _ _ _ us hl => match us, hl with | [_, _], _ => rfl) (fun vs H Q E h => ?_) (fun cdv A outer s H vs Q E hr h => ?_)
  · obtain ⟨a, m, rfl, _⟩ := h
    rfl
  · obtain ⟨a, m, rfl, hm, ⟨xs, hd⟩, q⟩ := h
    refine ⟨_, (pss_cons (ps_if (pt_cmpR op_eq (pe_callB call_len_seq (by rfl) B.len (by decide +kernel) (pa_cons (pv 0) pa_nil)) pe_int (nomark _)) (pss_one (ps_ret (pe_nat 0 pe_int))) pss_nil) (pss_one (ps_ret (pe_op op_mod (pe_callTy call_int1 (by rfl) B.int (by decide +kernel) (pa_cons (pe_bm0 PySem.F.plainAttrs_list PySem.F.slot_list_pop PySem.F.type_list_pop mt_pop (pv 0)) pa_nil)) (pv 1))))), ?_⟩
    refine ⟨.ref a, rfl, a, _, rfl, .inl (sq_of hd), rfl, ?_⟩
    refine ⟨_, rfl, ?_⟩
    refine ite2 (fun h => ?_) (fun h => ?_)
    · exact q 0 H hm (.refl ⟨xs, hd⟩)
    · have hne : xs ≠ [] := by
        rintro rfl
        exact h rfl
      refine ⟨.ref a, rfl, .inl ⟨rfl, _, sq_of hd⟩, a, _, .int (xs.getLast hne), rfl, rfl, hd, ?_, .inl ⟨_, rfl, ?_⟩⟩
      · rw [List.length_map, List.getElem?_map, ← List.getLast?_eq_getElem?, List.getLast?_eq_getLast hne]; rfl
      · refine ⟨.int m, rfl, _, _, rfl, rfl, ?_, ?_⟩
        · show (0 : Int) < (m : Int); omega
        · have h1 : 0 ≤ (xs.getLast hne) % (m : Int) := Int.emod_nonneg _ (by omega)
          have h2 : (xs.getLast hne) % (m : Int) < m := Int.emod_lt_of_pos _ (by omega)
          show Q (.int ((xs.getLast hne) % (m : Int))) _
          have e : (xs.getLast hne) % (m : Int) = (((xs.getLast hne) % (m : Int)).toNat : Nat) := by omega
          rw [e]
          refine q _ _ (by omega) ⟨fun b o hb hz => by rw [upd_ne hb]; exact hz, xs.dropLast, by rw [upd_same, List.map_dropLast]⟩
/-- the links of a web, at p -/
def LinksAt (H : Hp) (p : Addr) (ls : List (Nat × Nat)) : Prop := ∃ rs, H p = some (.lst rs) ∧ Lots H rs (ls.map fun l => [l.1, l.2])
def LinksOk (size : Nat) (ls : List (Nat × Nat)) : Prop := (∀ l ∈ ls, l.1 < l.2 ∧ l.2 < size) ∧ ls.length ≤ 64
def spWeb : Sp := fun vs H Q _ => ∃ (a : Addr) (size : Nat), vs = [.ref a, .int size] ∧ 1 ≤ size ∧ size ≤ 5 ∧ DrawsAt H a ∧ ∀ (ls : List (Nat × Nat)) p H', LinksOk size ls → p ≠ a → SB a H H' → LinksAt H' p ls → Q (.ref p) H'
theorem lots_push2 {H : Hp} {p b : Addr} {rs : List V} {ls : List (Nat × Nat)} {l : Nat × Nat} (h : Lots H rs (ls.map fun l => [l.1, l.2])) (hp : ∃ xs, H p = some (.lst xs)) (hb : H b = none) :
    Lots (upd (upd H b (.tup [.int (l.1 : Nat), .int (l.2 : Nat)])) p (.lst (rs ++ [.ref b]))) (rs ++ [.ref b]) ((ls ++ [l]).map fun l => [l.1, l.2]) := by
  obtain ⟨xs, hp⟩ := hp
  have hbp : b ≠ p := fun e => by rw [e, hp] at hb; cases hb
  rw [List.map_append]
  refine Lots.push ⟨h.1, fun i r ns x y => ?_⟩ ⟨b, rfl, by rw [upd_ne hbp, upd_same]; rfl⟩
  obtain ⟨t, rfl, z⟩ := h.2 i r ns x y
  refine ⟨t, rfl, ?_⟩
  rw [upd_ne (fun e => by rw [e, hp] at z; cases z), upd_ne (fun e => by rw [e, hb] at z; cases z)]
  exact z
theorem sc_law_web : FnScope ["_law_draws_here", "_law_size", "_law_links", "_law_word", "_law_y", "_law_x"] ["_law_draws_here", "_law_size"] (defScope (top 73)) := ⟨rfl, rfl, rfl, by decide +kernel, rfl, by decide +kernel, by decide +kernel⟩
theorem c_law_web (F : FnP K "_law_web" (top 73) f fd) (g : mg "_law_web" = some (.ref f)) (B : Bi mg) (c_law_take : Cal P w K mg base 1 "_law_take" spTake []) : Cal P w K mg base 2 "_law_web" spWeb [] := by
  refine mkCal F g sc_law_web (fun _ _ _ _ _ _ us hl => match us, hl with | [_, _], _ => rfl) (fun vs H Q E h => ?_) (fun cdv A outer s H vs Q E hr h => ?_)
  · obtain ⟨a, m, rfl, _⟩ := h
    rfl
  · obtain ⟨a, size, rfl, h1, h5, hd, q⟩ := h
    refine ⟨_, (pss_cons (ps_set (i := 2) sc_law_web.nd rfl (by first | exact Or.inl rfl | exact Or.inr rfl) (pe_lst pa_nil)) (pss_cons (ps_set (i := 3) sc_law_web.nd rfl (by first | exact Or.inl rfl | exact Or.inr rfl) (pe_c c_law_take hr (by decide) rfl (pa_cons (pv 0) (pa_cons (pe_nat 4 pe_int) pa_nil)))) (pss_cons (ps_for PassesOwn.never rfl (pi_range2 rfl B.range (pa_cons (pe_nat 1 pe_int) (pa_cons (pv 1) pa_nil))) (pg_name (i := 4) sc_law_web.nd rfl (by first | exact Or.inl rfl | exact Or.inr rfl)) (pss_one (ps_if (pt_cmpR on_eq (pv 3) (pe_nat 1 pe_int) (nomark _)) (pss_one (ps_expr (pe_bm PySem.F.plainAttrs_list PySem.F.slot_list_append PySem.F.type_list_append mt_append (pv 2) (pa_cons (pe_tup (pa_cons (pe_c c_law_take hr (by decide) rfl (pa_cons (pv 0) (pa_cons (pv 4) pa_nil))) (pa_cons (pv 4) pa_nil))) pa_nil)))) (pss_one (ps_for PassesOwn.never rfl (pi_range1 rfl B.range (pa_cons (pv 4) pa_nil)) (pg_name (i := 5) sc_law_web.nd rfl (by first | exact Or.inl rfl | exact Or.inr rfl)) (pss_one (ps_if (pt_cmpR on_gt (pe_c c_law_take hr (by decide) rfl (pa_cons (pv 0) (pa_cons (pe_nat 5 pe_int) pa_nil))) (pv 3) (nomark _)) (pss_one (ps_expr (pe_bm PySem.F.plainAttrs_list PySem.F.slot_list_append PySem.F.type_list_append mt_append (pv 2) (pa_cons (pe_tup (pa_cons (pv 5) (pa_cons (pv 4) pa_nil))) pa_nil)))) pss_nil))))))) (pss_one (ps_ret (pv 2)))))), ?_⟩
    refine q_asgL (el_lst ea_nil (by decide)) fun p H1 hp e1 hl => ?_
    have hpa := SB.ne hd hp
    refine r_asg (a := a) (hd.ex e1) (er_take 0 er_c (by rintro n rfl; decide)) fun word H2 _ s2 => ?_
    refine q_forR2 (lo := ((1 : Nat) : Int)) (n := (size : Int)) (ea_cons ev_c (ea_cons (ev_v 1) ea_nil)) (by omega) (fun i σ H' => SB a H H' ∧ ∃ ls : List (Nat × Nat), (∀ l ∈ ls, l.1 < l.2 ∧ l.2 < size) ∧ ls.length ≤ 5 * i ∧ LinksAt H' p ls ∧ ∃ v1 v2, σ = [some (.ref a), some (.int size), some (.ref p), some (.int word), v1, v2]) (fun H3 e3 => ⟨((SB.of hd e1).trans s2).ex e3, [], by simp, by simp, ⟨[], e3 _ _ (s2.kp _ _ hpa hl), nil_lots⟩, _, _, rfl⟩) ?_ ?_
    · rintro i σ H' hi ⟨s0, ls, g1, g2, ⟨rs, g3, g4⟩, v1, v2, rfl⟩
      have hy : ((1 : Nat) : Int) + (i : Int) = ((1 + i : Nat) : Int) := by omega
      rw [hy]
      have hys : 1 + i < size := by omega
      have hlen : rs.length = ls.length := by rw [g4.1, List.length_map]
      refine s_if (et_test (ev_n (ev_v 3) ev_c)) (fun hb H3 e3 => ?_) (fun hb H3 e3 => ?_)
      · have d3 := s0.dr.ex e3
        refine ⟨.ref p, rfl, .inl ⟨rfl, rs, sq_of (e3 _ _ g3)⟩, ?_⟩
        refine ⟨.ref a, rfl, .int (1 + i : Nat), rfl, a, 1 + i, rfl, by omega, d3, fun x H4 hx s4 => ?_⟩
        refine ⟨.int (1 + i : Nat), rfl, (by decide : 2 ≤ sizeLine), fun b hb => ?_⟩
        have hba := SB.ne s4.dr hb
        have g5 : H4 p = some (.lst rs) := s4.kp _ _ hpa (e3 _ _ g3)
        have hbp : b ≠ p := fun e => by rw [e, g5] at hb; cases hb
        refine ⟨p, rs, .ref b, rfl, rfl, by rw [upd_ne hbp.symm]; exact g5, sz_lt (by omega), ?_⟩
        have s5 : SB a H (upd (upd H4 b (.tup [.int (x : Nat), .int (1 + i : Nat)])) p (.lst (rs ++ [.ref b]))) := by
          refine ⟨fun c o hc ho => ?_, ?_⟩
          · have h6 := s4.kp c o hc (e3 _ _ (s0.kp c o hc ho))
            have : c ≠ p := fun e => by rw [e, hp] at ho; cases ho
            have : c ≠ b := fun e => by rw [e, hb] at h6; cases h6
            rw [upd_ne ‹c ≠ p›, upd_ne ‹c ≠ b›]; exact h6
          · obtain ⟨xs, h7⟩ := s4.dr
            exact ⟨xs, by rw [upd_ne hpa.symm, upd_ne hba.symm]; exact h7⟩
        refine ⟨s5, ls ++ [(x, 1 + i)], fun l hl => ?_, by rw [List.length_append, List.length_singleton]; omega, ⟨rs ++ [.ref b], upd_same, ?_⟩, _, _, rfl⟩
        · rcases List.mem_append.mp hl with hl | hl
          · exact g1 l hl
          · rw [List.mem_singleton.mp hl]; exact ⟨hx, hys⟩
        · exact lots_push2 (l := (x, 1 + i)) ((g4.ex e3).sb d3 s4) ⟨_, g5⟩ hb
      · refine s_forR1 (n := ((1 + i : Nat) : Int)) (ea_cons (ev_v 4) ea_nil) (by omega) (fun k σ H' => SB a H H' ∧ ∃ ls : List (Nat × Nat), (∀ l ∈ ls, l.1 < l.2 ∧ l.2 < size) ∧ ls.length ≤ 5 * i + k ∧ LinksAt H' p ls ∧ ∃ v2, σ = [some (.ref a), some (.int size), some (.ref p), some (.int word), some (.int (1 + i : Nat)), v2]) (fun H4 e4 => ⟨(s0.ex e3).ex e4, ls, g1, by omega, ⟨rs, e4 _ _ (e3 _ _ g3), (g4.ex e3).ex e4⟩, _, rfl⟩) ?_ ?_
        · rintro k σ H' hk ⟨s0, ls, g1, g2, ⟨rs, g3, g4⟩, v2, rfl⟩
          have hlen : rs.length = ls.length := by rw [g4.1, List.length_map]
          refine ⟨.ref a, rfl, a, 5, rfl, by decide, s0.dr, fun x H4 hx s4 => ?_⟩
          refine ⟨.int word, rfl, _, _, rfl, rfl, _, rfl, ?_⟩
          have g5 : H4 p = some (.lst rs) := s4.kp _ _ hpa g3
          refine ite2 (fun hb => ?_) (fun hb => ?_)
          · refine ⟨.ref p, rfl, .inl ⟨rfl, rs, sq_of g5⟩, .int (k : Nat), rfl, .int (1 + i : Nat), rfl, (by decide : 2 ≤ sizeLine), fun b hb => ?_⟩
            have hba := SB.ne s4.dr hb
            have hbp : b ≠ p := fun e => by rw [e, g5] at hb; cases hb
            refine ⟨p, rs, .ref b, rfl, rfl, by rw [upd_ne hbp.symm]; exact g5, sz_lt (by omega), ?_⟩
            have s5 : SB a H (upd (upd H4 b (.tup [.int (k : Nat), .int (1 + i : Nat)])) p (.lst (rs ++ [.ref b]))) := by
              refine ⟨fun c o hc ho => ?_, ?_⟩
              · have h6 := s4.kp c o hc (s0.kp c o hc ho)
                have : c ≠ p := fun e => by rw [e, hp] at ho; cases ho
                have : c ≠ b := fun e => by rw [e, hb] at h6; cases h6
                rw [upd_ne ‹c ≠ p›, upd_ne ‹c ≠ b›]; exact h6
              · obtain ⟨xs, h7⟩ := s4.dr
                exact ⟨xs, by rw [upd_ne hpa.symm, upd_ne hba.symm]; exact h7⟩
            refine ⟨s5, ls ++ [(k, 1 + i)], fun l hl => ?_, by rw [List.length_append, List.length_singleton]; omega, ⟨rs ++ [.ref b], upd_same, ?_⟩, _, rfl⟩
            · rcases List.mem_append.mp hl with hl | hl
              · exact g1 l hl
              · rw [List.mem_singleton.mp hl]; exact ⟨by omega, hys⟩
            · exact lots_push2 (l := (k, 1 + i)) (g4.sb s0.dr s4) ⟨_, g5⟩ hb
          · exact ⟨s0.trans s4, ls, g1, by omega, ⟨rs, g5, g4.sb s0.dr s4⟩, _, rfl⟩
        · rintro σ H' ⟨s0, ls, g1, g2, g3, v2, rfl⟩
          exact ⟨s0, ls, g1, by omega, g3, _, _, rfl⟩
    · rintro σ H' ⟨s0, ls, g1, g2, ⟨rs, g3, g4⟩, v1, v2, rfl⟩
      refine s_ret (ev_v 2) fun H2 e2 => ?_
      exact q ls p H2 ⟨g1, by omega⟩ hpa (s0.ex e2) ⟨rs, e2 _ _ g3, g4.ex e2⟩
end
end W7
end
section
namespace W7
open PySem PySem.Spec PyProof.Rows L2 L3 Evl
open C8 (Cal pe_c Mak pe_mk Met pe_mt pe_mt0)
section
variable {K : PySem.W.Frag} {σ : L2.St} {H H' H1 H2 : Hp} {a : Addr} {ta tb tc te tl tm : TE} {v : V} {t : TT} {D : Ends} {tz : TS}
/-- xs.append(v), xs a list that is tracked -/
theorem s_push {l : Addr} {i : Nat} {xs : List V} (hl : H l = some (.lst xs)) (h : Ev te σ H v) (hz : xs.length < 100000) (k : ∀ H1, Ex H H1 → D.nx σ (upd H1 l (.lst (xs ++ [v])))) (ha : σ[i]? = some (some (.ref l)) := by rfl) :
    tDrop (tBM K "list" rAppend (tVar i) (tCons te tNil)) D σ H := s_app hl (ev_var ha) h hz k
end
section
variable {P : Program} {w : World} {K : PySem.W.Frag} {mg : Str → Option Value} {base : Heap} {f : Addr} {fd : FuncData}
def bothF (l : Nat × Nat) : Nat := (1 <<< l.1) + (1 <<< l.2)
def pairAt (row : List Bool) (n : Nat) (l : Nat × Nat) : Bool := decide (n &&& bothF l = bothF l) && (decide (n < 2 <<< l.2) && row.getD (n - bothF l) false)
def pairRow (ls : List (Nat × Nat)) : Nat → List Bool
  | 0 => [true]
  | k + 1 => pairRow ls k ++ [ls.any (pairAt (pairRow ls k) (k + 1))]
theorem pairRow_len (ls : List (Nat × Nat)) : ∀ k, (pairRow ls k).length = k + 1
  | 0 => rfl
  | k + 1 => by rw [pairRow, List.length_append, pairRow_len ls k]; rfl
def pairF (size : Nat) (ls : List (Nat × Nat)) : List Nat := listF (pairRow ls (1 <<< size - 1))
def spPaired (K : PySem.W.Frag) : Sp := fun vs H Q _ => ∃ (size : Nat) (p : Addr) (ls : List (Nat × Nat)), vs = [.int size, .ref p] ∧ LinksAt H p ls ∧ LinksOk size ls ∧ size ≤ 5 ∧ RetL (nv (pairF size ls)) H Q
theorem sc_law_paired : FnScope ["_law_size", "_law_links", "_law_row", "_law_number", "_law_good", "_law_link", "_law_both"] ["_law_size", "_law_links"] (defScope (top 74)) := ⟨rfl, rfl, rfl, by decide +kernel, rfl, by decide +kernel, by decide +kernel⟩
theorem c_law_paired (F : FnP K "_law_paired" (top 74) f fd) (g : mg "_law_paired" = some (.ref f)) (B : Bi mg) (c_law_listed : Cal P w K mg base 1 "_law_listed" (spListed K) []) : Cal P w K mg base 2 "_law_paired" (spPaired K) [] := by
  refine mkCal F g sc_law_paired (fun _ _ _ _ _ _ us hl => match us, hl with | [_, _], _ => rfl) (fun vs H Q E h => ?_) (fun cdv A outer s H vs Q E hr h => ?_)
  · obtain ⟨size, p, ls, rfl, _⟩ := h
    rfl
  · obtain ⟨size, p, ls, rfl, ⟨rs, hp, hL⟩, ⟨hls, hll⟩, hz, q⟩ := h
    have h64 := pow64 (n := size) (by omega)
    have hpos : 1 ≤ 1 <<< size := by rw [Nat.one_shiftLeft]; exact Nat.one_le_two_pow
    refine ⟨_, (pss_cons (ps_set (i := 2) sc_law_paired.nd rfl (by first | exact Or.inl rfl | exact Or.inr rfl) (pe_lst (pa_cons pe_bl pa_nil))) (pss_cons (ps_for PassesOwn.never rfl (pi_range2 rfl B.range (pa_cons (pe_nat 1 pe_int) (pa_cons (pe_op on_shl (pe_nat 1 pe_int) (pv 0)) pa_nil))) (pg_name (i := 3) sc_law_paired.nd rfl (by first | exact Or.inl rfl | exact Or.inr rfl)) (pss_cons (ps_set (i := 4) sc_law_paired.nd rfl (by first | exact Or.inl rfl | exact Or.inr rfl) pe_bl) (pss_cons (ps_for PassesOwn.never rfl (pi_list (pv 1)) (pg_name (i := 5) sc_law_paired.nd rfl (by first | exact Or.inl rfl | exact Or.inr rfl)) (pss_cons (ps_set (i := 6) sc_law_paired.nd rfl (by first | exact Or.inl rfl | exact Or.inr rfl) (pe_op on_add (pe_op on_shl (pe_nat 1 pe_int) (pe_ix (on_ixT (K := K)) (pv 5) (pe_nat 0 pe_int) (fun _ _ => rfl))) (pe_op on_shl (pe_nat 1 pe_int) (pe_ix (on_ixT (K := K)) (pv 5) (pe_nat 1 pe_int) (fun _ _ => rfl))))) (pss_one (ps_if (PW.pt (pw_and (pt_cmpR on_eq (pe_op on_and (pv 3) (pv 6)) (pv 6) (nomark _)) (pw_and (pt_cmpR on_lt (pv 3) (pe_op on_shl (pe_nat 2 pe_int) (pe_ix (on_ixT (K := K)) (pv 5) (pe_nat 1 pe_int) (fun _ _ => rfl))) (nomark _)) (pw_and1 (pt_val (pe_ix (on_ix (K := K)) (pv 2) (pe_op on_sub (pv 3) (pv 6)) (fun _ _ => rfl))))))) (pss_one (ps_set (i := 4) sc_law_paired.nd rfl (by first | exact Or.inl rfl | exact Or.inr rfl) pe_bl)) pss_nil)))) (pss_one (ps_expr (pe_bm PySem.F.plainAttrs_list PySem.F.slot_list_append PySem.F.type_list_append mt_append (pv 2) (pa_cons (pv 4) pa_nil))))))) (pss_one (ps_ret (pe_c c_law_listed hr (by decide) rfl (pa_cons (pv 2) pa_nil)))))), ?_⟩
    refine q_asgL (el_lst (ea_cons ev_c ea_nil) (by decide : 1 ≤ 100000)) fun r H1 hr1 e1 hl => ?_
    refine q_forR2 (lo := ((1 : Nat) : Int)) (n := ((1 <<< size : Nat) : Int)) (ea_cons ev_c (ea_cons (ev_nc ev_c (ev_v 0) ⟨by decide, by omega⟩) ea_nil)) (by omega) (fun i σ H' => Ex H H' ∧ H' r = some (.lst (bv (pairRow ls i))) ∧ ∃ v1 v2 v3 v4, σ = [some (.int size), some (.ref p), some (.ref r), v1, v2, v3, v4]) (fun H3 e3 => ⟨e1.trans e3, e3 _ _ hl, _, _, _, _, rfl⟩) ?_ ?_
    · rintro i σ H' hi ⟨e0, h2, v1, v2, v3, v4, rfl⟩
      have hy : ((1 : Nat) : Int) + (i : Int) = ((i + 1 : Nat) : Int) := by omega
      rw [hy]
      have hi2 : i + 1 < 1 <<< size := by omega
      refine q_asg ev_c fun H2 e2 => ?_
      refine q_forL (xs := rs) (ev_v 1) (sq_of (e2 _ _ (e0 _ _ hp))) (fun j σ H' => Ex H H' ∧ H' r = some (.lst (bv (pairRow ls i))) ∧ ∃ v3 v4, σ = [some (.int size), some (.ref p), some (.ref r), some (.int (i + 1 : Nat)), some (.bl ((ls.take j).any (pairAt (pairRow ls i) (i + 1)))), v3, v4]) (fun H3 e3 => ⟨(e0.trans e2).trans e3, e3 _ _ (e2 _ _ h2), _, _, rfl⟩) (fun j σ H' _ h => sq_of (h.1 _ _ hp)) ?_ ?_
      · rintro j x σ H' hx ⟨e3, h3, v3, v4, rfl⟩
        have hj : j < ls.length := by have := (List.getElem?_eq_some_iff.mp hx).1; rw [hL.1, List.length_map] at this; exact this
        have hl1 : ls[j]? = some ls[j] := List.getElem?_eq_some_iff.mpr ⟨hj, rfl⟩
        obtain ⟨t, rfl, ht⟩ := (hL.2 j x [ls[j].1, ls[j].2] hx (by rw [List.getElem?_map, hl1]; rfl)).ex e3
        obtain ⟨g1, g2⟩ := hls ls[j] (List.getElem_mem hj)
        have ix0 : ∀ {σ : L2.St} {H4 : Hp}, Ex H' H4 → σ[5]? = some (some (.ref t)) → Ev (tOp (rIxTN K) (tVar 5) (tC (.int ((0 : Nat) : Int)))) σ H4 (.int (ls[j].1 : Nat)) := fun e4 h => ev_ixT (st_of (e4 _ _ ht)) (ev_var h) ev_c rfl
        have ix1 : ∀ {σ : L2.St} {H4 : Hp}, Ex H' H4 → σ[5]? = some (some (.ref t)) → Ev (tOp (rIxTN K) (tVar 5) (tC (.int ((1 : Nat) : Int)))) σ H4 (.int (ls[j].2 : Nat)) := fun e4 h => ev_ixT (st_of (e4 _ _ ht)) (ev_var h) ev_c rfl
        show tSeq _ _ _ _ H'
        refine q_asg (ev_n (ev_nc ev_c (ix0 (Ex.refl _) rfl) ⟨by decide, by omega⟩) (ev_nc ev_c (ix1 (Ex.refl _) rfl) ⟨by decide, by omega⟩)) fun H4 e4 => ?_
        have key : ((ls.take (j + 1)).any (pairAt (pairRow ls i) (i + 1))) = ((ls.take j).any (pairAt (pairRow ls i) (i + 1)) || pairAt (pairRow ls i) (i + 1) ls[j]) := by
          rw [List.take_add_one, hl1, Option.toList_some, List.any_append]
          simp
        have hlen := pairRow_len ls i
        have hb0 : bothF ls[j] ≠ 0 := by unfold bothF; rw [Nat.one_shiftLeft, Nat.one_shiftLeft]; have := Nat.one_le_two_pow (n := ls[j].1); have := Nat.one_le_two_pow (n := ls[j].2); omega
        refine s_if (b := pairAt (pairRow ls i) (i + 1) ls[j]) (et_and (et_test (ev_n (ev_n (ev_v 3) (ev_v 6)) (ev_v 6))) fun c1 => et_and (et_test (ev_n (ev_v 3) (ev_nc ev_c (ix1 e4 rfl) ⟨by decide, by omega⟩))) fun c2 => ?_) (fun hb H5 e5 => ?_) (fun hb H5 e5 => ?_)
        · have c3 := of_decide_eq_true c1
          have hle : bothF ls[j] ≤ i + 1 := by rw [← c3]; exact Nat.and_le_left
          refine et_B (ev_ix (sq_of (e4 _ _ h3)) (ev_v 2) (ev_nc (ev_v 3) (ev_v 6) hle) (bv_get ?_))
          show i + 1 - bothF ls[j] < _
          omega
        · refine s_asg ev_c fun H6 e6 => ⟨e3.trans (e4.trans (e5.trans e6)), e6 _ _ (e5 _ _ (e4 _ _ h3)), some (.ref t), some (.int (bothF ls[j] : Nat)), ?_⟩
          rw [key, hb, Bool.or_true]; rfl
        · refine ⟨e3.trans (e4.trans e5), e5 _ _ (e4 _ _ h3), some (.ref t), some (.int (bothF ls[j] : Nat)), ?_⟩
          rw [key, hb, Bool.or_false]; rfl
      · rintro σ H' ⟨e3, h3, v3, v4, rfl⟩
        refine s_push (i := 2) h3 (ev_v 4) (by rw [bv_len, pairRow_len]; omega) fun H4 e4 => ⟨Ex.mut (e3.trans e4) hr1, ?_, _, _, _, _, rfl⟩
        rw [upd_same, hL.1, List.length_map, List.take_length, pairRow]
        unfold bv
        rw [List.map_append]; rfl
    · rintro σ H' ⟨e0, h2, v1, v2, v3, v4, rfl⟩
      have hn : (((1 <<< size : Nat) : Int) - ((1 : Nat) : Int)).toNat = 1 <<< size - 1 := by omega
      rw [hn] at h2
      refine s_retL (el_call (ea_cons (ev_v 2) ea_nil) (fun H2 e2 Q2 q2 E2 => ⟨r, _, rfl, sq_of (e2 _ _ h2), by rw [pairRow_len]; omega, q2⟩)) fun l H2 hl e2 h3 => q l H2 (fresh_back e0 hl) (e0.trans e2) h3
/-! ### breaks -/
def ansF (size : Nat) (ms : List Nat) (n x : Nat) : Nat → Nat
  | 0 => 0
  | y + 1 => if !decide (y = x) && decide ((n ^^^ (1 <<< y)) ∈ ms) then ansF size ms n x y + 1 <<< y else ansF size ms n x y
def badF (size : Nat) (ms : List Nat) (m x g : Nat) : Bool := !decide ((m ^^^ (1 <<< x)) ∈ ms) && (decide (((m ^^^ g) >>> x) &&& 1 = 1) && decide ((m ^^^ g) &&& ansF size ms (m ^^^ (1 <<< x)) x size = 0))
def GatedP (size : Nat) (ms : List Nat) : Prop := ∀ m ∈ ms, ∀ x, x < size → ∀ g ∈ ms, badF size ms m x g = false
def spBreaks (K : PySem.W.Frag) : Sp := fun vs H Q _ => ∃ (size : Nat) (p : Addr) (ms : List Nat), vs = [.int size, .ref p] ∧ SqL K H p (nv ms) ∧ size ≤ 6 ∧ (∀ m ∈ ms, m < 1 <<< size) ∧ (GatedP size ms → RetL [] H Q) ∧ (∀ x y z, RetL [x, y, z] H Q)
theorem insF_get {size n : Nat} {ms : List Nat} (h : n < 1 <<< size) : (bv (insF size ms))[n]? = some (.bl (decide (n ∈ ms))) := by
  rw [bv_get (by unfold insF; simpa using h)]
  unfold insF
  rw [List.getD, List.getElem?_map, List.getElem?_range h]
  rfl
theorem one_lt_sh {x n : Nat} (h : x < n) : 1 <<< x < 1 <<< n := by
  rw [Nat.one_shiftLeft, Nat.one_shiftLeft]
  exact Nat.pow_lt_pow_right (by decide) h
theorem sc_law_breaks : FnScope ["_law_size", "_law_masks", "_law_row", "_law_number", "_law_thing", "_law_near", "_law_answers", "_law_other", "_law_goal", "_law_apart"] ["_law_size", "_law_masks"] (defScope (top 77)) := ⟨rfl, rfl, rfl, by decide +kernel, rfl, by decide +kernel, by decide +kernel⟩
theorem c_law_breaks (F : FnP K "_law_breaks" (top 77) f fd) (g : mg "_law_breaks" = some (.ref f)) (B : Bi mg) (c_law_inside : Cal P w K mg base 1 "_law_inside" (spIns K) []) : Cal P w K mg base 2 "_law_breaks" (spBreaks K) [] := by
  refine mkCal F g sc_law_breaks (fun _ _ _ _ _ _ us hl => match us, hl with | [_, _], _ => rfl) (fun vs H Q E h => ?_) (fun cdv A outer s H vs Q E hr h => ?_)
  · obtain ⟨size, p, ms, rfl, _⟩ := h
    rfl
  · obtain ⟨size, p, ms, rfl, hs, hz, hb, q1, q2⟩ := h
    have h64 := pow64 hz
    refine ⟨_, (pss_cons (ps_set (i := 2) sc_law_breaks.nd rfl (by first | exact Or.inl rfl | exact Or.inr rfl) (pe_c c_law_inside hr (by decide) rfl (pa_cons (pv 0) (pa_cons (pv 1) pa_nil)))) (pss_cons (ps_for PassesOwn.never rfl (pi_list (pv 1)) (pg_name (i := 3) sc_law_breaks.nd rfl (by first | exact Or.inl rfl | exact Or.inr rfl)) (pss_one (ps_for PassesOwn.never rfl (pi_range1 rfl B.range (pa_cons (pv 0) pa_nil)) (pg_name (i := 4) sc_law_breaks.nd rfl (by first | exact Or.inl rfl | exact Or.inr rfl)) (pss_cons (ps_set (i := 5) sc_law_breaks.nd rfl (by first | exact Or.inl rfl | exact Or.inr rfl) (pe_op on_xor (pv 3) (pe_op on_shl (pe_nat 1 pe_int) (pv 4)))) (pss_one (ps_if (pt_not (pt_val (pe_ix (on_ix (K := K)) (pv 2) (pv 5) (fun _ _ => rfl)))) (pss_cons (ps_set (i := 6) sc_law_breaks.nd rfl (by first | exact Or.inl rfl | exact Or.inr rfl) (pe_nat 0 pe_int)) (pss_cons (ps_for PassesOwn.never rfl (pi_range1 rfl B.range (pa_cons (pv 0) pa_nil)) (pg_name (i := 7) sc_law_breaks.nd rfl (by first | exact Or.inl rfl | exact Or.inr rfl)) (pss_one (ps_if (PW.pt (pw_and (pt_cmpR on_ne (pv 7) (pv 4) (nomark _)) (pw_and1 (pt_val (pe_ix (on_ix (K := K)) (pv 2) (pe_op on_xor (pv 5) (pe_op on_shl (pe_nat 1 pe_int) (pv 7))) (fun _ _ => rfl)))))) (pss_one (ps_aug (i := 6) sc_law_breaks.nd rfl (by first | exact Or.inl rfl | exact Or.inr rfl) (pe_op on_shl (pe_nat 1 pe_int) (pv 7)) ip_addN)) pss_nil))) (pss_one (ps_for PassesOwn.never rfl (pi_list (pv 1)) (pg_name (i := 8) sc_law_breaks.nd rfl (by first | exact Or.inl rfl | exact Or.inr rfl)) (pss_cons (ps_set (i := 9) sc_law_breaks.nd rfl (by first | exact Or.inl rfl | exact Or.inr rfl) (pe_op on_xor (pv 3) (pv 8))) (pss_one (ps_if (PW.pt (pw_and (pt_cmpR on_eq (pe_op on_and (pe_op on_shr (pv 9) (pv 4)) (pe_nat 1 pe_int)) (pe_nat 1 pe_int) (nomark _)) (pw_and1 (pt_cmpR on_eq (pe_op on_and (pv 9) (pv 6)) (pe_nat 0 pe_int) (nomark _))))) (pss_one (ps_ret (pe_lst (pa_cons (pv 3) (pa_cons (pv 8) (pa_cons (pv 4) pa_nil)))))) pss_nil))))))) pss_nil)))))) (pss_one (ps_ret (pe_lst pa_nil))))), ?_⟩
    refine q_asgL (el_call (ea_cons (ev_v 0) (ea_cons (ev_v 1) ea_nil)) (fun H2 e2 Q2 q2 E2 => ⟨size, p, ms, rfl, ex_l e2 hs, hz, hb, q2⟩)) fun r H1 hr1 e1 h1 => ?_
    refine q_forLN (ev_v 1) hs e1 (fun i σ H' => Ex H1 H' ∧ (∀ m ∈ ms.take i, ∀ x, x < size → ∀ g ∈ ms, badF size ms m x g = false) ∧ ∃ v1 v2 v3 v4 v5 v6 v7, σ = [some (.int size), some (.ref p), some (.ref r), v1, v2, v3, v4, v5, v6, v7]) (fun H2 e2 => ⟨e2, by simp, _, _, _, _, _, _, _, rfl⟩) (fun i σ H' h => e1.trans h.1) ?_ ?_
    · rintro i m σ H' hm ⟨e2, hg, v1, v2, v3, v4, v5, v6, v7, rfl⟩
      have hm1 := hb m (List.mem_of_getElem? hm)
      refine s_forR1 (n := (size : Int)) (ea_cons (ev_v 0) ea_nil) (by omega) (fun x σ H' => Ex H1 H' ∧ (∀ y, y < x → ∀ g ∈ ms, badF size ms m y g = false) ∧ ∃ v2 v3 v4 v5 v6 v7, σ = [some (.int size), some (.ref p), some (.ref r), some (.int m), v2, v3, v4, v5, v6, v7]) (fun H3 e3 => ⟨e2.trans e3, by simp, _, _, _, _, _, _, rfl⟩) ?_ ?_
      · rintro x σ H' hx ⟨e3, hgx, v2, v3, v4, v5, v6, v7, rfl⟩
        have hxs : x < size := by omega
        refine q_asg (ev_n (ev_v 3) (ev_nc ev_c (ev_v 4) ⟨by decide, by omega⟩)) fun H4 e4 => ?_
        have hnl : m ^^^ (1 <<< x) < 1 <<< size := xor_lt_sh hm1 (one_lt_sh hxs)
        refine s_if (et_not (et_B (ev_ix (sq_of (e4 _ _ (e3 _ _ h1))) (ev_v 2) (ev_v 5) (insF_get hnl)))) (fun hn H5 e5 => ?_) (fun hn H5 e5 => ?_)
        · refine q_asg ev_c fun H6 e6 => ?_
          refine q_forR1 (n := (size : Int)) (ea_cons (ev_v 0) ea_nil) (by omega) (fun y σ H' => Ex H1 H' ∧ ∃ v5 v6 v7, σ = [some (.int size), some (.ref p), some (.ref r), some (.int m), some (.int x), some (.int (m ^^^ (1 <<< x) : Nat)), some (.int (ansF size ms (m ^^^ (1 <<< x)) x y : Nat)), v5, v6, v7]) (fun H7 e7 => ⟨e3.trans (e4.trans (e5.trans (e6.trans e7))), _, _, _, rfl⟩) ?_ ?_
          · rintro y σ H' hy ⟨e7, v5, v6, v7, rfl⟩
            have hys : y < size := by omega
            refine s_if (b := !decide (y = x) && decide (((m ^^^ (1 <<< x)) ^^^ (1 <<< y)) ∈ ms)) (et_and (et_test (ev_n (ev_v 7) (ev_v 4))) fun _ => et_B (ev_ix (sq_of (e7 _ _ h1)) (ev_v 2) (ev_n (ev_v 5) (ev_nc ev_c (ev_v 7) ⟨by decide, by omega⟩)) (insF_get (xor_lt_sh hnl (one_lt_sh hys))))) (fun hb H8 e8 => ?_) (fun hb H8 e8 => ?_)
            · refine s_augN (ev_nc ev_c (ev_v 7) ⟨by decide, by omega⟩) fun H9 e9 => ⟨e7.trans (e8.trans e9), some (.int (y : Nat)), v6, v7, ?_⟩
              rw [ansF, if_pos hb]
              rfl
            · refine ⟨e7.trans e8, some (.int (y : Nat)), v6, v7, ?_⟩
              rw [ansF, if_neg (by rw [hb]; decide)]
              rfl
          · rintro σ H' ⟨e7, v5, v6, v7, rfl⟩
            refine s_forLN (ev_v 1) hs (e1.trans e7) (fun j σ H' => Ex H1 H' ∧ (∀ g ∈ ms.take j, badF size ms m x g = false) ∧ ∃ v5 v6 v7, σ = [some (.int size), some (.ref p), some (.ref r), some (.int m), some (.int x), some (.int (m ^^^ (1 <<< x) : Nat)), some (.int (ansF size ms (m ^^^ (1 <<< x)) x size : Nat)), v5, v6, v7]) (fun H8 e8 => ⟨e7.trans e8, by simp, _, _, _, rfl⟩) (fun i σ H' h => e1.trans h.1) ?_ ?_
            · rintro j g σ H' hg2 ⟨e8, hgj, v5, v6, v7, rfl⟩
              refine q_asg (ev_n (ev_v 3) (ev_v 8)) fun H9 e9 => ?_
              refine s_if (b := decide (((m ^^^ g) >>> x) &&& 1 = 1) && decide ((m ^^^ g) &&& ansF size ms (m ^^^ (1 <<< x)) x size = 0)) (et_and (et_test (ev_n (ev_n (ev_n (ev_v 9) (ev_v 4)) ev_c) ev_c)) fun _ => et_test (ev_n (ev_n (ev_v 9) (ev_v 6)) ev_c)) (fun hb H10 e10 => ?_) (fun hb H10 e10 => ?_)
              · refine s_retL (el_lst (ea_cons (ev_v 3) (ea_cons (ev_v 8) (ea_cons (ev_v 4) ea_nil))) (by decide : 3 ≤ 100000)) fun l H11 hl e11 h11 => ?_
                have ee := e1.trans (e8.trans (e9.trans e10))
                exact q2 _ _ _ l H11 (fresh_back ee hl) (ee.trans e11) h11
              · refine ⟨e8.trans (e9.trans e10), fun g' hg' => ?_, _, _, _, rfl⟩
                rw [List.take_add_one, hg2, Option.toList_some] at hg'
                rcases List.mem_append.mp hg' with h | h
                · exact hgj g' h
                · rw [List.mem_singleton.mp h]
                  unfold badF
                  rw [hb, Bool.and_false]
            · rintro σ H' ⟨e8, hgj, v5, v6, v7, rfl⟩
              rw [List.take_length] at hgj
              refine ⟨e8, fun y hy => ?_, _, _, _, _, _, _, rfl⟩
              rcases Nat.lt_succ_iff_lt_or_eq.mp hy with h | h
              · exact hgx y h
              · rw [h]; exact hgj
        · refine ⟨e3.trans (e4.trans e5), fun y hy g hg2 => ?_, _, _, _, _, _, _, rfl⟩
          rcases Nat.lt_succ_iff_lt_or_eq.mp hy with h | h
          · exact hgx y h g hg2
          · rw [h]
            unfold badF
            rw [hn, Bool.false_and]
      · rintro σ H' ⟨e3, hgx, v2, v3, v4, v5, v6, v7, rfl⟩
        refine ⟨e3, fun m' hm' => ?_, _, _, _, _, _, _, _, rfl⟩
        rw [List.take_add_one, hm, Option.toList_some] at hm'
        rcases List.mem_append.mp hm' with h | h
        · exact hg m' h
        · rw [List.mem_singleton.mp h]; exact hgx
    · rintro σ H' ⟨e2, hg, v1, v2, v3, v4, v5, v6, v7, rfl⟩
      rw [List.take_length] at hg
      refine s_retL (el_lst ea_nil (by decide)) fun l H11 hl e11 h11 => q1 hg l H11 (fresh_back (e1.trans e2) hl) ((e1.trans e2).trans e11) h11
end
end W7
end
section
namespace W7
open PySem PySem.Spec PyProof.Rows L2 L3 Evl
open C8 (Cal pe_c Mak pe_mk Met pe_mt pe_mt0)
def Good (size : Nat) (ms : List Nat) : Prop := ms.Pairwise (· < ·) ∧ ∀ m ∈ ms, m < 1 <<< size
theorem good_list {bs : List Bool} {size : Nat} (h : bs.length = 1 <<< size) : Good size (listF bs) := by
  unfold listF
  refine ⟨List.Pairwise.filter _ List.pairwise_lt_range, fun m hm => ?_⟩
  rw [← h]
  exact List.mem_range.mp (List.mem_filter.mp hm).1
theorem asc_len {n : Nat} : ∀ (ms : List Nat) (lo : Nat), ms.Pairwise (· < ·) → (∀ m ∈ ms, lo ≤ m) → (∀ m ∈ ms, m < n) → ms.length ≤ n - lo
  | [], _, _, _, _ => by simp
  | m :: ms, lo, h, h1, h2 => by
    rw [List.pairwise_cons] at h
    have := asc_len ms (m + 1) h.2 (fun x hx => h.1 x hx) (fun x hx => h2 x (List.mem_cons_of_mem _ hx))
    have h3 := h1 m List.mem_cons_self
    have h4 := h2 m List.mem_cons_self
    rw [List.length_cons]
    omega
theorem good_len {size : Nat} {ms : List Nat} (g : Good size ms) (h : size ≤ 6) : ms.length ≤ 64 := by
  have h64 := pow64 h
  have := asc_len ms 0 g.1 (fun _ _ => Nat.zero_le _) g.2
  omega
theorem good_sized {size low tp : Nat} : Good size (sizedF size low tp) := by
  unfold sizedF
  refine ⟨List.Pairwise.filter _ List.pairwise_lt_range, fun m hm => List.mem_range.mp (List.mem_filter.mp hm).1⟩
theorem good_join {size : Nat} {ms os : List Nat} : Good size (joinF size ms os) := good_list (by simp)
theorem good_pair {size : Nat} {ls : List (Nat × Nat)} : Good size (pairF size ls) := good_list (by
  rw [pairRow_len]
  have : 1 ≤ 1 <<< size := by rw [Nat.one_shiftLeft]; exact Nat.one_le_two_pow
  omega)
theorem xor_inj {a b t : Nat} (h : a ^^^ t = b ^^^ t) : a = b := by
  have := congrArg (· ^^^ t) h
  simpa [Nat.xor_assoc] using this
theorem good_turn {size t : Nat} {ms M : List Nat} (g : Good size ms) (ht : t < 1 <<< size) (h1 : M.Perm (ms.map fun m => m ^^^ t)) (h2 : M.Pairwise (· ≤ ·)) : Good size M := by
  have hn : M.Nodup := h1.nodup_iff.mpr (by
    refine List.Pairwise.map (R := (· ≠ ·)) _ (fun a b h e => h (xor_inj e)) (g.1.imp fun h => by omega))
  refine ⟨(h2.and hn).imp fun h => by omega, fun m hm => ?_⟩
  obtain ⟨a, ha, rfl⟩ := List.mem_map.mp (h1.mem_iff.mp hm)
  exact xor_lt_sh (g.2 a ha) ht
section
variable {P : Program} {w : World} {K : PySem.W.Frag} {mg : Str → Option Value} {base : Heap} {f : Addr} {fd : FuncData}
def spMade : Sp := fun vs H Q _ => ∃ (a : Addr) (size : Nat), vs = [.ref a, .int size] ∧ 1 ≤ size ∧ size ≤ 5 ∧ DrawsAt H a ∧ ∀ (ms : List Nat) p H', Good size ms → p ≠ a → SB a H H' → H' p = some (.lst (nv ms)) → Q (.ref p) H'
theorem sc_law_made : FnScope ["_law_draws_here", "_law_size", "_law_word", "_law_low", "_law_top", "_law_masks", "_law_lot_here"] ["_law_draws_here", "_law_size"] (defScope (top 78)) := ⟨rfl, rfl, rfl, by decide +kernel, rfl, by decide +kernel, by decide +kernel⟩
theorem c_law_made (F : FnP K "_law_made" (top 78) f fd) (g : mg "_law_made" = some (.ref f)) (B : Bi mg) (c_law_take : Cal P w K mg base 1 "_law_take" spTake []) (c_law_sized : Cal P w K mg base 2 "_law_sized" spSized []) (c_law_web : Cal P w K mg base 2 "_law_web" spWeb []) (c_law_paired : Cal P w K mg base 2 "_law_paired" (spPaired K) []) (c_law_joined : Cal P w K mg base 2 "_law_joined" (spJoined K) []) : Cal P w K mg base 3 "_law_made" spMade [] := by
  refine mkCal F g sc_law_made (fun _ _ _ _ _ _ us hl => match us, hl with | [_, _], _ => rfl) (fun vs H Q E h => ?_) (fun cdv A outer s H vs Q E hr h => ?_)
  · obtain ⟨a, m, rfl, _⟩ := h
    rfl
  · obtain ⟨a, size, rfl, h1, h5, hd, q⟩ := h
    refine ⟨_, (pss_cons (ps_set (i := 2) sc_law_made.nd rfl (by first | exact Or.inl rfl | exact Or.inr rfl) (pe_c c_law_take hr (by decide) rfl (pa_cons (pv 0) (pa_cons (pe_nat 6 pe_int) pa_nil)))) (pss_cut (ps_if (PW.pt (pw_or (pt_cmpR on_eq (pv 2) (pe_nat 0 pe_int) (nomark _)) (pw_or1 (pt_cmpR on_eq (pv 2) (pe_nat 3 pe_int) (nomark _))))) (pss_cons (ps_set (i := 3) sc_law_made.nd rfl (by first | exact Or.inl rfl | exact Or.inr rfl) (pe_c c_law_take hr (by decide) rfl (pa_cons (pv 0) (pa_cons (pe_op on_add (pv 1) (pe_nat 1 pe_int)) pa_nil)))) (pss_cons (ps_set (i := 4) sc_law_made.nd rfl (by first | exact Or.inl rfl | exact Or.inr rfl) (pe_op on_add (pv 3) (pe_c c_law_take hr (by decide) rfl (pa_cons (pv 0) (pa_cons (pe_op on_sub (pe_op on_add (pv 1) (pe_nat 1 pe_int)) (pv 3)) pa_nil))))) (pss_one (ps_set (i := 5) sc_law_made.nd rfl (by first | exact Or.inl rfl | exact Or.inr rfl) (pe_c c_law_sized hr (by decide) rfl (pa_cons (pv 1) (pa_cons (pv 3) (pa_cons (pv 4) pa_nil)))))))) (pss_one (ps_set (i := 5) sc_law_made.nd rfl (by first | exact Or.inl rfl | exact Or.inr rfl) (pe_c c_law_paired hr (by decide) rfl (pa_cons (pv 1) (pa_cons (pe_c c_law_web hr (by decide) rfl (pa_cons (pv 0) (pa_cons (pv 1) pa_nil))) pa_nil)))))) (pss_cut (ps_if (pt_cmpR on_ge (pv 2) (pe_nat 4 pe_int) (nomark _)) (pss_cons (ps_set (i := 3) sc_law_made.nd rfl (by first | exact Or.inl rfl | exact Or.inr rfl) (pe_c c_law_take hr (by decide) rfl (pa_cons (pv 0) (pa_cons (pe_nat 2 pe_int) pa_nil)))) (pss_one (ps_set (i := 5) sc_law_made.nd rfl (by first | exact Or.inl rfl | exact Or.inr rfl) (pe_c c_law_joined hr (by decide) rfl (pa_cons (pv 1) (pa_cons (pv 5) (pa_cons (pe_c c_law_sized hr (by decide) rfl (pa_cons (pv 1) (pa_cons (pv 3) (pa_cons (pe_nat 1 pe_int) pa_nil)))) pa_nil))))))) pss_nil) (pss_cut (ps_if (pt_cmpR on_eq (pv 2) (pe_nat 3 pe_int) (nomark _)) (pss_cons (ps_set (i := 6) sc_law_made.nd rfl (by first | exact Or.inl rfl | exact Or.inr rfl) (pe_op on_and (pe_c c_law_take hr (by decide) rfl (pa_cons (pv 0) (pa_cons (pe_nat 24 pe_int) pa_nil))) (pe_op on_sub (pe_op on_shl (pe_nat 1 pe_int) (pv 1)) (pe_nat 1 pe_int)))) (pss_one (ps_set (i := 5) sc_law_made.nd rfl (by first | exact Or.inl rfl | exact Or.inr rfl) (pe_c c_law_joined hr (by decide) rfl (pa_cons (pv 1) (pa_cons (pv 5) (pa_cons (pe_lst (pa_cons (pe_nat 0 pe_int) (pa_cons (pv 6) pa_nil))) pa_nil))))))) pss_nil) (pss_one (ps_ret (pv 5))))))), ?_⟩
    refine r_asg (a := a) hd (er_take 0 er_c (by rintro n rfl; decide)) fun word H1 _ s1 => ?_
    refine q_cut (M := fun σ H' => SB a H H' ∧ ∃ p ms v3 v4 v6, Good size ms ∧ p ≠ a ∧ H' p = some (.lst (nv ms)) ∧ σ = [some (.ref a), some (.int size), some (.int word), v3, v4, some (.ref p), v6]) ?_ ?_
    · refine s_if (et_or (et_test (ev_n (ev_v 2) ev_c)) fun _ => et_test (ev_n (ev_v 2) ev_c)) (fun hb H2 e2 => ?_) (fun hb H2 e2 => ?_)
      · refine r_asg (a := a) (s1.dr.ex e2) (er_take 0 (er_n (er_v 1) er_c) (by rintro n ⟨x, y, rfl, rfl, rfl⟩; omega)) fun low H3 hlow s3 => ?_
        have hlow : low < size + 1 := by
          obtain ⟨_, ⟨x, y, rfl, rfl, rfl⟩, h⟩ := hlow
          exact h
        refine r_asg (a := a) s3.dr (er_n (er_v 3) (er_take 0 (er_nc (er_n (er_v 1) er_c) (er_v 3) (by rintro x y ⟨x, y, rfl, rfl, rfl⟩ rfl; omega)) (by rintro n ⟨x, y, ⟨x, y, rfl, rfl, rfl⟩, rfl, rfl⟩; omega))) fun tp H4 _ s4 => ?_
        refine s_asgL (el_call (ea_cons (ev_v 1) (ea_cons (ev_v 3) (ea_cons (ev_v 4) ea_nil))) (fun H2 e2 Q2 q2 E2 => ⟨size, low, tp, rfl, by omega, q2⟩)) fun p H5 hp e5 h5 => ?_
        exact ⟨((s1.ex e2).trans s3).trans (s4.ex e5), p, _, _, _, _, good_sized, SB.ne s4.dr hp, h5, rfl⟩
      · refine ⟨.int size, rfl, .ref a, rfl, .int size, rfl, a, size, rfl, h1, h5, s1.dr.ex e2, fun ls p H3 ok hp s3 hL => ⟨size, p, ls, rfl, hL, ok, h5, fun l H4 hl e4 h4 => ?_⟩⟩
        exact ⟨(s1.ex e2).trans (s3.ex e4), l, _, _, _, _, good_pair, SB.ne s3.dr hl, h4, rfl⟩
    · rintro σ H2 ⟨s2, p, ms, v3, v4, v6, gm, hpa, hp, rfl⟩
      refine q_cut (M := fun σ H' => SB a H H' ∧ ∃ p ms v3 v4 v6, Good size ms ∧ p ≠ a ∧ H' p = some (.lst (nv ms)) ∧ σ = [some (.ref a), some (.int size), some (.int word), v3, v4, some (.ref p), v6]) ?_ ?_
      · refine s_when (et_test (ev_n (ev_v 2) ev_c)) (fun hb H3 e3 => ?_) (fun hb H3 e3 => ⟨s2.ex e3, p, ms, _, _, _, gm, hpa, e3 _ _ hp, rfl⟩)
        refine r_asg (a := a) (s2.dr.ex e3) (er_take 0 er_c (by rintro n rfl; decide)) fun low H4 hlow s4 => ?_
        have hp4 := s4.kp _ _ hpa (e3 _ _ hp)
        have e0 : EvL (tCall (spJoined K) [] E0 (tCons (tVar 1) (tCons (tVar 5) (tCons (tCall spSized [] E0 (tCons (tVar 1) (tCons (tVar 3) (tCons (tC (.int ((1 : Nat) : Int))) tNil)))) tNil)))) [some (.ref a), some (.int size), some (.int word), some (.int low), v4, some (.ref p), v6] H4 (nv (joinF size ms (sizedF size low 1))) := fun H5 e5 Q5 q5 => by
          refine ⟨.int size, rfl, .ref p, rfl, .int size, rfl, .int low, rfl, size, low, 1, rfl, by omega, fun l H6 hl e6 h6 => ?_⟩
          exact ⟨size, p, l, ms, _, rfl, sq_of (e6 _ _ (e5 _ _ hp4)), sq_of h6, by omega, gm.2, good_sized.2, fun r H7 hr7 e7 h7 => q5 r H7 (fresh_back e6 hr7) (e6.trans e7) h7⟩
        refine s_asgL e0 fun r H5 hr5 e5 h5 => ?_
        exact ⟨(s2.ex e3).trans (s4.ex e5), r, _, _, _, _, good_join, SB.ne s4.dr hr5, h5, rfl⟩
      · rintro σ H3 ⟨s3, p, ms, v3, v4, v6, gm, hpa, hp, rfl⟩
        refine q_cut (M := fun σ H' => SB a H H' ∧ ∃ p ms v3 v4 v6, Good size ms ∧ p ≠ a ∧ H' p = some (.lst (nv ms)) ∧ σ = [some (.ref a), some (.int size), some (.int word), v3, v4, some (.ref p), v6]) ?_ ?_
        · refine s_when (et_test (ev_n (ev_v 2) ev_c)) (fun hb H4 e4 => ?_) (fun hb H4 e4 => ⟨s3.ex e4, p, ms, _, _, _, gm, hpa, e4 _ _ hp, rfl⟩)
          have h64 := pow64 (n := size) (by omega)
          have hpos : 1 ≤ 1 <<< size := by rw [Nat.one_shiftLeft]; exact Nat.one_le_two_pow
          refine r_asg (a := a) (s3.dr.ex e4) (er_n (er_take 0 er_c (by rintro n rfl; decide)) (er_nc (er_nc er_c (er_v 1) (by rintro x y rfl rfl; omega)) er_c (by rintro x y ⟨x, y, rfl, rfl, rfl⟩ rfl; exact hpos))) fun lot H5 hlot s5 => ?_
          have hlot : lot < 1 <<< size := by
            obtain ⟨x, y, _, ⟨_, _, ⟨_, _, rfl, rfl, rfl⟩, rfl, rfl⟩, rfl⟩ := hlot
            exact Nat.lt_of_le_of_lt Nat.and_le_right (by omega)
          have hp5 := s5.kp _ _ hpa (e4 _ _ hp)
          have e0 : EvL (tCall (spJoined K) [] E0 (tCons (tVar 1) (tCons (tVar 5) (tCons (tLst (tCons (tC (.int ((0 : Nat) : Int))) (tCons (tVar 6) tNil))) tNil)))) [some (.ref a), some (.int size), some (.int word), v3, v4, some (.ref p), some (.int lot)] H5 (nv (joinF size ms [0, lot])) := fun H6 e6 Q6 q6 => by
            refine ⟨.int size, rfl, .ref p, rfl, .int lot, rfl, (by decide : 2 ≤ sizeLine), fun l hl => ?_⟩
            exact ⟨size, p, l, ms, [0, lot], rfl, sq_of (Ex.new hl _ _ (e6 _ _ hp5)), sq_of upd_same, by omega, gm.2, by simp; omega, fun r H7 hr7 e7 h7 => q6 r H7 (fresh_back (Ex.new hl) hr7) ((Ex.new hl).trans e7) h7⟩
          refine s_asgL e0 fun r H6 hr6 e6 h6 => ?_
          exact ⟨(s3.ex e4).trans (s5.ex e6), r, _, _, _, _, good_join, SB.ne s5.dr hr6, h6, rfl⟩
        · rintro σ H4 ⟨s4, p, ms, v3, v4, v6, gm, hpa, hp, rfl⟩
          exact s_ret (ev_v 5) fun H5 e5 => q ms p H5 gm hpa (s4.ex e5) (e5 _ _ hp)
end
end W7
end
section
namespace W7
open PySem PySem.Spec PyProof.Rows L2 L3 Evl
open C8 (Cal pe_c Mak pe_mk Met pe_mt pe_mt0)
section
variable {K : PySem.W.Frag} {σ : L2.St} {H H' H1 H2 : Hp} {a : Addr} {ta tb tc te tl tm : TE} {v : V} {t : TT} {D : Ends} {tz : TS}
def rMin2 : List V → Hp → VK → Prop := fun xs H Q => ∃ i j, xs = [.int i, .int j] ∧ Q (.int (if j < i then j else i)) H
theorem ev_min2N {x y : Nat} (ha : Ev ta σ H (.int (x : Nat))) (hb : Ev tb σ H (.int (y : Nat))) : Ev (tCB rMin2 (tCons ta (tCons tb tNil))) σ H (.int ((min x y : Nat) : Int)) := fun H1 e Q q =>
  ha H1 e _ fun H2 e2 => hb H2 (e.trans e2) _ fun H3 e3 => ⟨x, y, rfl, by
    have h : (if (y : Int) < (x : Int) then (y : Int) else (x : Int)) = ((min x y : Nat) : Int) := by
      split <;> omega
    rw [h]
    exact q H3 (e2.trans e3)⟩
theorem nv_at {ns : List Nat} {i : Nat} (h : i < ns.length) : (nv ns)[i]? = some (.int (ns.getD i 0 : Nat)) := by
  unfold nv
  rw [List.getElem?_map, List.getD, (List.getElem?_eq_some_iff.mpr ⟨h, rfl⟩ : ns[i]? = some ns[i])]
  rfl
/-- number & (1 << size) - 1 -/
theorem er_mask {size : Nat} {p : Nat → Prop} (i : Nat) (hz : size ≤ 6) (h : EvR a ta σ p) (hi : σ[i]? = some (some (.int (size : Nat))) := by rfl) :
    EvR a (tOp (rN0 fun x y => .int ((x &&& y : Nat) : Int)) ta (tOp (rN (fun a b => b ≤ a) fun a b => .int ((a - b : Nat) : Int)) (tOp (rN (fun a b => a < 64 ∧ b < 64) fun a b => .int ((a <<< b : Nat) : Int)) (tC (.int ((1 : Nat) : Int))) (tVar i)) (tC (.int ((1 : Nat) : Int))))) σ (fun n => n < 1 <<< size) := by
  have hpos : 1 ≤ 1 <<< size := by rw [Nat.one_shiftLeft]; exact Nat.one_le_two_pow
  refine er_w (er_n h (er_nc (er_nc er_c (er_v i hi) (by rintro x y rfl rfl; omega)) er_c (by rintro x y ⟨x, y, rfl, rfl, rfl⟩ rfl; exact hpos))) fun n hn => ?_
  obtain ⟨x, y, _, ⟨_, _, ⟨_, _, rfl, rfl, rfl⟩, rfl, rfl⟩, rfl⟩ := hn
  exact Nat.lt_of_le_of_lt Nat.and_le_right (by omega)
theorem er_two {c : Nat} (hc : 0 < c) (i : Nat) (hi : σ[i]? = some (some (.ref a)) := by rfl) : EvR a (tOp (rN0 fun x y => .int ((x + y : Nat) : Int)) (tCall spTake [] E0 (tCons (tVar i) (tCons (tC (.int ((24 : Nat) : Int))) tNil))) (tOp (rN (fun a b => a < 2 ^ 64) fun x y => .int ((x * y : Nat) : Int)) (tC (.int ((24 : Nat) : Int))) (tCall spTake [] E0 (tCons (tVar i) (tCons (tC (.int ((c : Nat) : Int))) tNil))))) σ (fun _ => True) :=
  er_w (er_n (er_take i er_c (by rintro n rfl; decide) hi) (er_nc er_c (er_take i er_c (by rintro n rfl; exact hc) hi) (by rintro x y rfl _; decide))) fun _ _ => trivial
theorem SB.upd {r : Addr} {o : HO} (s : SB a H H') (hr : H r = none) (ha : r ≠ a) : SB a H (upd H' r o) := ⟨fun c u hc hu => by rw [upd_ne (fun e => by rw [e, hr] at hu; cases hu)]; exact s.kp c u hc hu, s.dr.elim fun xs z => ⟨xs, by rw [upd_ne (fun e => ha e.symm)]; exact z⟩⟩
end
section
variable {P : Program} {w : World} {K : PySem.W.Frag} {mg : Str → Option Value} {base : Heap} {f : Addr} {fd : FuncData}
def spFamily (R : Nat → List Nat → Prop) : Sp := fun vs H Q _ => ∃ (a : Addr) (mo : Nat), vs = [.ref a, .int (mo : Nat)] ∧ 1 ≤ mo ∧ mo ≤ 5 ∧ DrawsAt H a ∧ ∀ (size : Nat) (ms : List Nat) p pm H', 1 ≤ size → size ≤ 5 → Good size ms → ms ≠ [] → R size ms → p ≠ a → pm ≠ a → SB a H H' → H' p = some (.lst [.int size, .ref pm]) → H' pm = some (.lst (nv ms)) → Q (.ref p) H'
theorem sc_law_family : FnScope ["_law_draws_here", "_law_most", "_law_size", "_law_word", "_law_masks", "_law_row", "_law_k", "_law_number", "_law_lot_here"] ["_law_draws_here", "_law_most"] (defScope (top 79)) := ⟨rfl, rfl, rfl, by decide +kernel, rfl, by decide +kernel, by decide +kernel⟩
theorem c_law_family (F : FnP K "_law_family" (top 79) f fd) (g : mg "_law_family" = some (.ref f)) (B : Bi mg) (c_law_take : Cal P w K mg base 1 "_law_take" spTake []) (c_law_made : Cal P w K mg base 3 "_law_made" spMade []) (c_law_inside : Cal P w K mg base 1 "_law_inside" (spIns K) []) (c_law_listed : Cal P w K mg base 1 "_law_listed" (spListed K) []) (c_law_turned : Cal P w K mg base 1 "_law_turned" (spTurned K) []) : Cal P w K mg base 4 "_law_family" (spFamily fun _ _ => True) [] := by
  refine mkCal F g sc_law_family (fun _ _ _ _ _ _ us hl => match us, hl with | [_, _], _ => rfl) (fun vs H Q E h => ?_) (fun cdv A outer s H vs Q E hr h => ?_)
  · obtain ⟨a, mo, rfl, _⟩ := h
    rfl
  · obtain ⟨a, mo, rfl, hm1, hm5, hd, q⟩ := h
    refine ⟨_, (pss_cons (ps_set (i := 2) sc_law_family.nd rfl (by first | exact Or.inl rfl | exact Or.inr rfl) (pe_op on_add (pe_nat 1 pe_int) (pe_ix (on_ix (K := K)) (pe_lst (pa_cons (pe_nat 2 pe_int) (pa_cons (pe_nat 1 pe_int) (pa_cons (pe_nat 3 pe_int) (pa_cons (pe_nat 2 pe_int) (pa_cons (pe_nat 4 pe_int) (pa_cons (pe_nat 3 pe_int) (pa_cons (pe_nat 0 pe_int) (pa_cons (pe_nat 5 pe_int) pa_nil))))))))) (pe_c c_law_take hr (by decide) rfl (pa_cons (pv 0) (pa_cons (pe_nat 8 pe_int) pa_nil))) (fun _ _ => rfl)))) (pss_cons (ps_set (i := 2) sc_law_family.nd rfl (by first | exact Or.inl rfl | exact Or.inr rfl) (pe_callB (call_min2 rfl) (by rfl) B.min (by decide +kernel) (pa_cons (pv 2) (pa_cons (pv 1) pa_nil)))) (pss_cons (ps_set (i := 3) sc_law_family.nd rfl (by first | exact Or.inl rfl | exact Or.inr rfl) (pe_c c_law_take hr (by decide) rfl (pa_cons (pv 0) (pa_cons (pe_nat 6 pe_int) pa_nil)))) (pss_cons (ps_set (i := 4) sc_law_family.nd rfl (by first | exact Or.inl rfl | exact Or.inr rfl) (pe_c c_law_made hr (by decide) rfl (pa_cons (pv 0) (pa_cons (pv 2) pa_nil)))) (pss_cut (ps_if (pt_cmpR on_ge (pv 3) (pe_nat 4 pe_int) (nomark _)) (pss_cons (ps_set (i := 5) sc_law_family.nd rfl (by first | exact Or.inl rfl | exact Or.inr rfl) (pe_c c_law_inside hr (by decide) rfl (pa_cons (pv 2) (pa_cons (pv 4) pa_nil)))) (pss_cons (ps_for PassesOwn.never rfl (pi_range1 rfl B.range (pa_cons (pe_op on_add (pe_nat 1 pe_int) (pe_op on_mul (pe_op on_sub (pv 3) (pe_nat 4 pe_int)) (pe_nat 3 pe_int))) pa_nil)) (pg_name (i := 6) sc_law_family.nd rfl (by first | exact Or.inl rfl | exact Or.inr rfl)) (pss_cons (ps_set (i := 7) sc_law_family.nd rfl (by first | exact Or.inl rfl | exact Or.inr rfl) (pe_op on_and (pe_op on_add (pe_c c_law_take hr (by decide) rfl (pa_cons (pv 0) (pa_cons (pe_nat 24 pe_int) pa_nil))) (pe_op on_mul (pe_nat 24 pe_int) (pe_c c_law_take hr (by decide) rfl (pa_cons (pv 0) (pa_cons (pe_nat 3 pe_int) pa_nil))))) (pe_op on_sub (pe_op on_shl (pe_nat 1 pe_int) (pv 2)) (pe_nat 1 pe_int)))) (pss_one (ps_asg (pe_not (pe_ix (on_ix (K := K)) (pv 5) (pv 7) (fun _ _ => rfl))) (pg_sub (pv 5) (pv 7) set_list))))) (pss_one (ps_set (i := 4) sc_law_family.nd rfl (by first | exact Or.inl rfl | exact Or.inr rfl) (pe_c c_law_listed hr (by decide) rfl (pa_cons (pv 5) pa_nil)))))) pss_nil) (pss_cons (ps_set (i := 8) sc_law_family.nd rfl (by first | exact Or.inl rfl | exact Or.inr rfl) (pe_op on_and (pe_op on_add (pe_c c_law_take hr (by decide) rfl (pa_cons (pv 0) (pa_cons (pe_nat 24 pe_int) pa_nil))) (pe_op on_mul (pe_nat 24 pe_int) (pe_c c_law_take hr (by decide) rfl (pa_cons (pv 0) (pa_cons (pe_nat 3 pe_int) pa_nil))))) (pe_op on_sub (pe_op on_shl (pe_nat 1 pe_int) (pv 2)) (pe_nat 1 pe_int)))) (pss_cons (ps_set (i := 4) sc_law_family.nd rfl (by first | exact Or.inl rfl | exact Or.inr rfl) (pe_c c_law_turned hr (by decide) rfl (pa_cons (pv 4) (pa_cons (pv 8) pa_nil)))) (pss_cut (ps_if (pt_cmpR on_eq (pe_callB call_len_seq (by rfl) B.len (by decide +kernel) (pa_cons (pv 4) pa_nil)) (pe_nat 0 pe_int) (nomark _)) (pss_one (ps_set (i := 4) sc_law_family.nd rfl (by first | exact Or.inl rfl | exact Or.inr rfl) (pe_lst (pa_cons (pv 8) pa_nil)))) pss_nil) (pss_one (ps_ret (pe_lst (pa_cons (pv 2) (pa_cons (pv 4) pa_nil))))))))))))), ?_⟩
    refine ⟨(by decide : 8 ≤ sizeLine), fun l hl => ⟨.ref a, rfl, a, 8, rfl, by decide, hd.ex (Ex.new hl), fun r H1 hr s1 => ?_⟩⟩
    have s1 : SB a H H1 := (SB.of hd (Ex.new hl)).trans s1
    have hl1 : H1 l = some (.lst (nv [2, 1, 3, 2, 4, 3, 0, 5])) := ‹SB a (upd H l _) H1›.kp _ _ (SB.ne hd hl) upd_same
    refine ⟨l, nv [2, 1, 3, 2, 4, 3, 0, 5], r, .int ([2, 1, 3, 2, 4, 3, 0, 5].getD r 0 : Nat), rfl, rfl, sq_of hl1, nv_at hr, 1, [2, 1, 3, 2, 4, 3, 0, 5].getD r 0, rfl, rfl, ?_⟩
    refine q_asg (ev_min2N (ev_v 2) (ev_v 1)) fun H2 e2 => ?_
    have s2 := s1.ex e2
    generalize hsz : min (1 + [2, 1, 3, 2, 4, 3, 0, 5].getD r 0) mo = size
    have z1 : 1 ≤ size := by omega
    have z5 : size ≤ 5 := by omega
    clear hsz
    have h64 := pow64 (n := size) (by omega)
    refine r_asg (a := a) s2.dr (er_take 0 er_c (by rintro n rfl; decide)) fun word H3 hw s3 => ?_
    have hw : word < 6 := by obtain ⟨_, rfl, h⟩ := hw; exact h
    refine ⟨.ref a, rfl, .int size, rfl, a, size, rfl, z1, z5, s3.dr, fun ms p H4 gm hpa s4 hp => ?_⟩
    have s4 := (s2.trans s3).trans s4
    refine q_cut (M := fun σ H' => SB a H H' ∧ ∃ p ms v5 v6 v7, Good size ms ∧ p ≠ a ∧ H' p = some (.lst (nv ms)) ∧ σ = [some (.ref a), some (.int (mo : Nat)), some (.int size), some (.int word), some (.ref p), v5, v6, v7, none]) ?_ ?_
    · refine s_when (et_test (ev_n (ev_v 3) ev_c)) (fun hb H5 e5 => ?_) (fun hb H5 e5 => ⟨s4.ex e5, p, ms, _, _, _, gm, hpa, e5 _ _ hp, rfl⟩)
      have hb : 4 ≤ word := of_decide_eq_true hb
      have s5 := s4.ex e5
      refine q_asgL (el_call (ea_cons (ev_v 2) (ea_cons (ev_v 4) ea_nil)) (fun H6 e6 Q6 q6 E6 => ⟨size, p, ms, rfl, sq_of (e6 _ _ (e5 _ _ hp)), by omega, gm.2, q6⟩)) fun r H6 hr6 e6 h6 => ?_
      have s6 := s5.ex e6
      have hra := SB.ne s5.dr hr6
      have hrH : H r = none := by
        cases h : H r with
        | none => rfl
        | some o => have := s5.kp _ _ hra h; rw [hr6] at this; cases this
      refine q_forR1 (n := ((1 + (word - 4) * 3 : Nat) : Int)) (ea_cons (ev_n ev_c (ev_nc (ev_nc (ev_v 3) ev_c hb) ev_c (by omega))) ea_nil) (by omega) (fun i σ H' => SB a H H' ∧ ∃ bs : List Bool, bs.length = 1 <<< size ∧ H' r = some (.lst (bv bs)) ∧ ∃ v6 v7, σ = [some (.ref a), some (.int (mo : Nat)), some (.int size), some (.int word), some (.ref p), some (.ref r), v6, v7, none]) (fun H7 e7 => ⟨s6.ex e7, insF size ms, by unfold insF; simp, e7 _ _ h6, _, _, rfl⟩) ?_ ?_
      · rintro i σ H7 hi ⟨s7, bs, hbs, h7, v6, v7, rfl⟩
        refine r_asg (a := a) s7.dr (er_mask (size := size) 2 (by omega) (er_two (by decide) 0)) fun n H8 hn s8 => ?_
        have h8 := s8.kp _ _ hra h7
        refine s_setL h8 (ev_notV (ev_ix (sq_of h8) (ev_v 5) (ev_v 7) (bv_get (by omega)))) (ev_v 5) (ev_v 7) (by rw [bv_len]; omega) fun H9 e9 => ?_
        refine ⟨((s7.trans s8).ex e9).upd hrH hra, bs.set n (!bs.getD n false), by rw [List.length_set]; exact hbs, ?_, some (.int (i : Nat)), some (.int (n : Nat)), rfl⟩
        rw [upd_same]
        unfold bv
        rw [List.map_set]
      · rintro σ H7 ⟨s7, bs, hbs, h7, v6, v7, rfl⟩
        refine s_asgL (el_call (ea_cons (ev_v 5) ea_nil) (fun H8 e8 Q8 q8 E8 => ⟨r, bs, rfl, sq_of (e8 _ _ h7), by omega, q8⟩)) fun l H8 hl8 e8 h8 => ?_
        exact ⟨s7.ex e8, l, _, _, _, _, good_list hbs, SB.ne s7.dr hl8, h8, rfl⟩
    · rintro σ H5 ⟨s5, p, ms, v5, v6, v7, gm, hpa, hp, rfl⟩
      refine r_asg (a := a) s5.dr (er_mask (size := size) 2 (by omega) (er_two (by decide) 0)) fun lot H6 hlot s6 => ?_
      have s6' := s5.trans s6
      refine ⟨.ref p, rfl, .int lot, rfl, p, ms, lot, rfl, sq_of (s6.kp _ _ hpa hp), good_len gm (by omega), fun M m1 m2 l H7 hl7 e7 h7 => ?_⟩
      have gM := good_turn gm hlot m1 m2
      refine q_cut (M := fun σ H' => SB a H H' ∧ ∃ p ms v5 v6 v7 v8, Good size ms ∧ ms ≠ [] ∧ p ≠ a ∧ H' p = some (.lst (nv ms)) ∧ σ = [some (.ref a), some (.int (mo : Nat)), some (.int size), some (.int word), some (.ref p), v5, v6, v7, v8]) ?_ ?_
      · refine s_when (et_test (ev_n (ev_len (ev_v 4) (sq_of h7)) ev_c)) (fun hb H8 e8 => ?_) (fun hb H8 e8 => ?_)
        · refine s_asgL (el_lst (ea_cons (ev_v 8) ea_nil) (by decide : 1 ≤ 100000)) fun l2 H9 hl9 e9 h9 => ?_
          exact ⟨(s6'.ex e7).ex (e8.trans e9), l2, [lot], _, _, _, _, ⟨List.pairwise_singleton _ _, by simpa using hlot⟩, by simp, SB.ne ((s6'.ex e7).ex e8).dr hl9, h9, rfl⟩
        · refine ⟨(s6'.ex e7).ex e8, l, M, _, _, _, _, gM, ?_, SB.ne s6'.dr hl7, e8 _ _ h7, rfl⟩
          rintro rfl
          exact absurd hb (by decide)
      · rintro σ H8 ⟨s8, p, ms, v5, v6, v7, v8, gm, hne, hpa, hp, rfl⟩
        refine s_retL (el_lst (ea_cons (ev_v 2) (ea_cons (ev_v 4) ea_nil)) (by decide : 2 ≤ 100000)) fun l2 H9 hl9 e9 h9 => ?_
        exact q size ms l2 p H9 z1 z5 gm hne trivial (SB.ne s8.dr hl9) hpa (s8.ex e9) h9 (e9 _ _ hp)
/-- webs' families are gated, turned and widened too -/
def PairGated : Prop := ∀ (size : Nat) (ls : List (Nat × Nat)) (lot : Nat) (M : List Nat), 1 ≤ size → size ≤ 5 → LinksOk size ls → lot < 1 <<< size → M.Perm ((pairF size ls).map fun m => m ^^^ lot) → M.Pairwise (· ≤ ·) →
  (GatedP size M ∧ M ≠ []) ∧ GatedP size (joinF size M (sizedF size 0 1)) ∧ joinF size M (sizedF size 0 1) ≠ []
theorem sc_law_gated : FnScope ["_law_draws_here", "_law_most", "_law_drawn", "_law_size", "_law_masks", "_law_lot_here"] ["_law_draws_here", "_law_most"] (defScope (top 80)) := ⟨rfl, rfl, rfl, by decide +kernel, rfl, by decide +kernel, by decide +kernel⟩
theorem c_law_gated (hG : PairGated) (F : FnP K "_law_gated" (top 80) f fd) (g : mg "_law_gated" = some (.ref f)) (B : Bi mg) (c_law_take : Cal P w K mg base 1 "_law_take" spTake []) (c_law_family : Cal P w K mg base 4 "_law_family" (spFamily fun _ _ => True) []) (c_law_breaks : Cal P w K mg base 2 "_law_breaks" (spBreaks K) []) (c_law_turned : Cal P w K mg base 1 "_law_turned" (spTurned K) []) (c_law_sized : Cal P w K mg base 2 "_law_sized" spSized []) (c_law_web : Cal P w K mg base 2 "_law_web" spWeb []) (c_law_paired : Cal P w K mg base 2 "_law_paired" (spPaired K) []) (c_law_joined : Cal P w K mg base 2 "_law_joined" (spJoined K) []) : Cal P w K mg base 5 "_law_gated" (spFamily GatedP) [] := by
  refine mkCal F g sc_law_gated (fun _ _ _ _ _ _ us hl => match us, hl with | [_, _], _ => rfl) (fun vs H Q E h => ?_) (fun cdv A outer s H vs Q E hr h => ?_)
  · obtain ⟨a, mo, rfl, _⟩ := h
    rfl
  · obtain ⟨a, mo, rfl, hm1, hm5, hd, q⟩ := h
    refine ⟨_, (pss_cons (ps_set (i := 2) sc_law_gated.nd rfl (by first | exact Or.inl rfl | exact Or.inr rfl) (pe_c c_law_family hr (by decide) rfl (pa_cons (pv 0) (pa_cons (pv 1) pa_nil)))) (pss_cons (ps_set (i := 3) sc_law_gated.nd rfl (by first | exact Or.inl rfl | exact Or.inr rfl) (pe_ix (on_ix (K := K)) (pv 2) (pe_nat 0 pe_int) (fun _ _ => rfl))) (pss_cons (ps_set (i := 4) sc_law_gated.nd rfl (by first | exact Or.inl rfl | exact Or.inr rfl) (pe_ix (on_ix (K := K)) (pv 2) (pe_nat 1 pe_int) (fun _ _ => rfl))) (pss_cut (ps_if (pt_cmpR on_gt (pe_callB call_len_seq (by rfl) B.len (by decide +kernel) (pa_cons (pe_c c_law_breaks hr (by decide) rfl (pa_cons (pv 3) (pa_cons (pv 4) pa_nil))) pa_nil)) (pe_nat 0 pe_int) (nomark _)) (pss_cons (ps_set (i := 5) sc_law_gated.nd rfl (by first | exact Or.inl rfl | exact Or.inr rfl) (pe_ix (on_ix (K := K)) (pv 4) (pe_nat 0 pe_int) (fun _ _ => rfl))) (pss_cons (ps_set (i := 4) sc_law_gated.nd rfl (by first | exact Or.inl rfl | exact Or.inr rfl) (pe_c c_law_turned hr (by decide) rfl (pa_cons (pe_c c_law_paired hr (by decide) rfl (pa_cons (pv 3) (pa_cons (pe_c c_law_web hr (by decide) rfl (pa_cons (pv 0) (pa_cons (pv 3) pa_nil))) pa_nil))) (pa_cons (pv 5) pa_nil)))) (pss_one (ps_if (pt_cmpR on_eq (pe_c c_law_take hr (by decide) rfl (pa_cons (pv 0) (pa_cons (pe_nat 2 pe_int) pa_nil))) (pe_nat 1 pe_int) (nomark _)) (pss_one (ps_set (i := 4) sc_law_gated.nd rfl (by first | exact Or.inl rfl | exact Or.inr rfl) (pe_c c_law_joined hr (by decide) rfl (pa_cons (pv 3) (pa_cons (pv 4) (pa_cons (pe_c c_law_sized hr (by decide) rfl (pa_cons (pv 3) (pa_cons (pe_nat 0 pe_int) (pa_cons (pe_nat 1 pe_int) pa_nil)))) pa_nil)))))) pss_nil)))) pss_nil) (pss_one (ps_ret (pe_lst (pa_cons (pv 3) (pa_cons (pv 4) pa_nil))))))))), ?_⟩
    refine ⟨.ref a, rfl, .int (mo : Nat), rfl, a, mo, rfl, hm1, hm5, hd, fun size ms p pm H1 z1 z5 gm hne _ hpa hpma s1 hp hpm => ?_⟩
    have h64 := pow64 (n := size) (by omega)
    refine q_asg (ev_ix (sq_of hp) (ev_v 2) ev_c rfl) fun H2 e2 => ?_
    refine q_asg (ev_ix (sq_of (e2 _ _ hp)) (ev_v 2) ev_c rfl) fun H3 e3 => ?_
    have s3 := (s1.ex e2).ex e3
    have hp3 := e3 _ _ (e2 _ _ hpm)
    refine q_cut (M := fun σ H' => SB a H H' ∧ ∃ p ms v2 v5, Good size ms ∧ ms ≠ [] ∧ GatedP size ms ∧ p ≠ a ∧ H' p = some (.lst (nv ms)) ∧ σ = [some (.ref a), some (.int (mo : Nat)), v2, some (.int size), some (.ref p), v5]) ?_ ?_
    · refine ⟨.int size, rfl, .ref pm, rfl, size, pm, ms, rfl, sq_of hp3, by omega, gm.2, fun hg l H4 hl e4 h4 => ?_, fun x y z l H4 hl e4 h4 => ?_⟩
      · refine ⟨l, [], rfl, .inl (sq_of h4), _, _, rfl, rfl, _, rfl, ?_⟩
        exact ⟨s3.ex e4, pm, ms, _, _, gm, hne, hg, hpma, e4 _ _ hp3, rfl⟩
      · refine ⟨l, [x, y, z], rfl, .inl (sq_of h4), _, _, rfl, rfl, _, rfl, ?_⟩
        refine ite2 (fun _ => ?_) (fun h => absurd rfl h)
        refine q_asg (ev_ix (sq_of (e4 _ _ hp3)) (ev_v 4) ev_c (nv_at (List.length_pos_iff.mpr hne))) fun H5 e5 => ?_
        have hlot : ms.getD 0 0 < 1 <<< size := by
          cases ms with
          | nil => exact absurd rfl hne
          | cons m ms => exact gm.2 m List.mem_cons_self
        generalize ms.getD 0 0 = lot at hlot
        have s5 := s3.ex (e4.trans e5)
        refine ⟨.int size, rfl, .ref a, rfl, .int size, rfl, a, size, rfl, z1, z5, s5.dr, fun ls pw H6 ok hpw s6 hL => ⟨size, pw, ls, rfl, hL, ok, z5, fun l H7 hl e7 h7 => ⟨.int lot, rfl, l, pairF size ls, lot, rfl, sq_of h7, good_len good_pair (by omega), fun M m1 m2 r H8 hr8 e8 h8 => ?_⟩⟩⟩
        have gM := good_turn good_pair hlot m1 m2
        obtain ⟨⟨k1, k2⟩, k3, k4⟩ := hG size ls lot M z1 z5 ok hlot m1 m2
        have s8 := (s5.trans s6).ex (e7.trans e8)
        have hra := SB.ne (s6.ex e7).dr hr8
        refine ⟨.ref a, rfl, a, 2, rfl, by decide, s8.dr, fun x H9 hx s9 => ⟨_, _, rfl, rfl, _, rfl, ite2 (fun hb => ?_) (fun hb => ?_)⟩⟩
        · have h9 := s9.kp _ _ hra h8
          refine ⟨.int size, rfl, .ref r, rfl, .int size, rfl, size, 0, 1, rfl, by omega, fun l2 H10 hl10 e10 h10 => ⟨size, r, l2, M, _, rfl, sq_of (e10 _ _ h9), sq_of h10, by omega, gM.2, good_sized.2, fun l3 H11 hl11 e11 h11 => ?_⟩⟩
          exact ⟨(s8.trans s9).ex (e10.trans e11), l3, _, _, _, good_join, k4, k3, SB.ne (s9.ex e10).dr hl11, h11, rfl⟩
        · exact ⟨s8.trans s9, r, M, _, _, gM, k2, k1, hra, s9.kp _ _ hra h8, rfl⟩
    · rintro σ H8 ⟨s8, p, ms, v2, v5, gm, hne, hg, hpa, hp, rfl⟩
      refine s_retL (el_lst (ea_cons (ev_v 3) (ea_cons (ev_v 4) ea_nil)) (by decide : 2 ≤ 100000)) fun l2 H9 hl9 e9 h9 => ?_
      exact q size ms l2 p H9 z1 z5 gm hne hg (SB.ne s8.dr hl9) hpa (s8.ex e9) h9 (e9 _ _ hp)
end
end W7
end
section
namespace W7
/-! ### exchange, by membership -/
def EX (S : Nat → Prop) : Prop := ∀ m g, S m → S g → ∀ x, (m ^^^ g).testBit x = true → S (m ^^^ (1 <<< x)) ∨ ∃ y, y ≠ x ∧ (m ^^^ g).testBit y = true ∧ S ((m ^^^ (1 <<< x)) ^^^ (1 <<< y))
theorem tb_sh (x j : Nat) : (1 <<< x).testBit j = decide (x = j) := by
  rw [Nat.one_shiftLeft, Nat.testBit_two_pow]
theorem tb_lt {n k j : Nat} (h : n < 2 ^ k) (hj : n.testBit j = true) : j < k := by
  refine Nat.lt_of_not_le fun hk => ?_
  have := Nat.testBit_lt_two_pow (Nat.lt_of_lt_of_le h (Nat.pow_le_pow_right (by decide) hk))
  rw [this] at hj; cases hj
theorem ans_ok (size : Nat) (ms : List Nat) (n x : Nat) : ∀ k, ansF size ms n x k < 2 ^ k ∧ ∀ j, (ansF size ms n x k).testBit j = (decide (j < k) && (!decide (j = x) && decide ((n ^^^ (1 <<< j)) ∈ ms)))
  | 0 => ⟨by show (0 : Nat) < 1; decide, fun j => by simp [ansF]⟩
  | k + 1 => by
    obtain ⟨h1, h2⟩ := ans_ok size ms n x k
    have hp : 2 ^ (k + 1) = 2 ^ k + 2 ^ k := by rw [Nat.pow_succ]; omega
    rw [ansF]
    by_cases hc : (!decide (k = x) && decide ((n ^^^ (1 <<< k)) ∈ ms)) = true
    · rw [if_pos hc, Nat.one_shiftLeft]
      refine ⟨by omega, fun j => ?_⟩
      have h4 := Nat.two_pow_add_eq_or_of_lt h1 1
      rw [Nat.mul_one] at h4
      rw [Nat.add_comm, h4]
      rcases Nat.lt_trichotomy j k with h | h | h
      · rw [Nat.testBit_or, h2, Nat.testBit_two_pow]
        have : ¬ k = j := by omega
        have : j < k + 1 := by omega
        simp [*]
      · subst h
        rw [Nat.testBit_or, Nat.testBit_two_pow]
        simp [hc]
      · rw [Nat.testBit_or, h2, Nat.testBit_two_pow]
        have : ¬ k = j := by omega
        have : ¬ j < k := by omega
        have : ¬ j < k + 1 := by omega
        simp [*]
    · rw [if_neg hc]
      refine ⟨by omega, fun j => ?_⟩
      rw [h2]
      by_cases hj : j = k
      · subst hj
        have : (!decide (j = x) && decide ((n ^^^ (1 <<< j)) ∈ ms)) = false := by simpa using hc
        simp [this]
      · have : (decide (j < k + 1)) = decide (j < k) := by
          by_cases h : j < k
          · simp [h]; omega
          · simp [h]; omega
        rw [this]
theorem gated_of_EX {size : Nat} {ms : List Nat} (hb : ∀ m ∈ ms, m < 1 <<< size) (h : EX (· ∈ ms)) : GatedP size ms := by
  intro m hm x hx g hg
  unfold badF
  rw [Bool.and_eq_false_iff, Bool.and_eq_false_iff]
  by_cases h1 : (m ^^^ (1 <<< x)) ∈ ms
  · exact .inl (by simp [h1])
  by_cases h2 : ((m ^^^ g) >>> x) &&& 1 = 1
  · have h3 : (m ^^^ g).testBit x = true := by
      rw [shr_and] at h2
      cases e : (m ^^^ g).testBit x with
      | true => rfl
      | false => rw [e] at h2; cases h2
    rcases h m g hm hg x h3 with h4 | ⟨y, h4, h5, h6⟩
    · exact absurd h4 h1
    · refine .inr (.inr (decide_eq_false fun h7 => ?_))
      have h8 : ((m ^^^ g) &&& ansF size ms (m ^^^ (1 <<< x)) x size).testBit y = true := by
        have hy : y < size := by
          refine tb_lt (n := m ^^^ g) ?_ h5
          rw [← Nat.one_shiftLeft]
          exact xor_lt_sh (hb m hm) (hb g hg)
        rw [Nat.testBit_and, h5, (ans_ok size ms _ x size).2]
        simp [hy, h4, h6]
      rw [h7, Nat.zero_testBit] at h8
      cases h8
  · exact .inr (.inl (decide_eq_false h2))
theorem EX_of_gated {size : Nat} {ms : List Nat} (hb : ∀ m ∈ ms, m < 1 <<< size) (h : GatedP size ms) : EX (· ∈ ms) := by
  intro m g hm hg x hx
  have hxs : x < size := by
    refine tb_lt (n := m ^^^ g) ?_ hx
    rw [← Nat.one_shiftLeft]
    exact xor_lt_sh (hb m hm) (hb g hg)
  by_cases h1 : (m ^^^ (1 <<< x)) ∈ ms
  · exact .inl h1
  · refine .inr ?_
    have h2 := h m hm x hxs g hg
    unfold badF at h2
    rw [shr_and, hx] at h2
    simp only [h1, decide_false, Bool.not_false, Bool.toNat_true, decide_true, Bool.true_and, decide_eq_false_iff_not] at h2
    obtain ⟨y, hy⟩ := Nat.exists_testBit_of_ne_zero h2
    rw [Nat.testBit_and, (ans_ok size ms _ x size).2] at hy
    simp only [Bool.and_eq_true, Bool.not_eq_true', decide_eq_false_iff_not, decide_eq_true_eq] at hy
    exact ⟨y, hy.2.2.1, hy.1, hy.2.2.2⟩
theorem EX.turn {S : Nat → Prop} (h : EX S) (t : Nat) : EX (fun n => S (n ^^^ t)) := by
  intro m g hm hg x hx
  have e : (m ^^^ t) ^^^ (g ^^^ t) = m ^^^ g := by
    rw [Nat.xor_assoc, Nat.xor_comm g t, ← Nat.xor_assoc t t g, Nat.xor_self, Nat.zero_xor]
  have c : ∀ a b : Nat, (a ^^^ b) ^^^ t = (a ^^^ t) ^^^ b := fun a b => by rw [Nat.xor_assoc, Nat.xor_comm b t, ← Nat.xor_assoc]
  rcases h (m ^^^ t) (g ^^^ t) hm hg x (by rw [e]; exact hx) with h1 | ⟨y, h1, h2, h3⟩
  · exact .inl (by show S _; rw [c]; exact h1)
  · refine .inr ⟨y, h1, by rw [e] at h2; exact h2, ?_⟩
    show S _
    rw [c, c]
    exact h3
theorem EX.iff {S T : Nat → Prop} (h : EX S) (e : ∀ n, S n ↔ T n) : EX T := by
  have : S = T := funext fun n => propext (e n)
  rw [← this]; exact h
/-! ### a swift check -/
def bset (ms : List Nat) : Nat := ms.foldl (fun a m => a ||| (1 <<< m)) 0
theorem bset_ok (ms : List Nat) (n : Nat) : (bset ms).testBit n = decide (n ∈ ms) := by
  have go : ∀ (ms : List Nat) (a : Nat), (ms.foldl (fun a m => a ||| (1 <<< m)) a).testBit n = (a.testBit n || decide (n ∈ ms)) := by
    intro ms
    induction ms with
    | nil => intro a; simp
    | cons m ms ih =>
      intro a
      rw [List.foldl_cons, ih, Nat.testBit_or, tb_sh, Bool.or_assoc]
      congr 1
      by_cases h : n = m
      · subst h; simp
      · have : ¬ m = n := fun e => h e.symm
        simp [h, this]
  unfold bset
  rw [go]; simp
def hasB (F n : Nat) : Bool := Nat.beq ((F >>> n) % 2) 1
theorem hasB_ok (F n : Nat) : hasB F n = F.testBit n := by
  unfold hasB
  rw [Nat.testBit, Nat.and_comm, Nat.and_one_is_mod]
  rcases Nat.mod_two_eq_zero_or_one (F >>> n) with h | h <;> rw [h] <;> rfl
def chkF (size F : Nat) (ms : List Nat) : Bool :=
  ms.all fun m => (List.range size).all fun x => hasB F (m ^^^ (1 <<< x)) ||
    ms.all fun g => !hasB (m ^^^ g) x || (List.range size).any fun y => !Nat.beq y x && (hasB (m ^^^ g) y && hasB F ((m ^^^ (1 <<< x)) ^^^ (1 <<< y)))
theorem chk_EX {size F : Nat} {ms : List Nat} (hb : ∀ m ∈ ms, m < 1 <<< size) (hF : ∀ n, F.testBit n = decide (n ∈ ms)) (h : chkF size F ms = true) : EX (· ∈ ms) := by
  intro m g hm hg x hx
  have hxs : x < size := by
    refine tb_lt (n := m ^^^ g) ?_ hx
    rw [← Nat.one_shiftLeft]
    exact xor_lt_sh (hb m hm) (hb g hg)
  unfold chkF at h
  have h1 := List.all_eq_true.mp (List.all_eq_true.mp h m hm) x (List.mem_range.mpr hxs)
  rw [hasB_ok, hF, Bool.or_eq_true] at h1
  rcases h1 with h1 | h1
  · exact .inl (of_decide_eq_true h1)
  · have h2 := List.all_eq_true.mp h1 g hg
    rw [hasB_ok, hx, Bool.not_true, Bool.false_or] at h2
    obtain ⟨y, hy, h3⟩ := List.any_eq_true.mp h2
    rw [hasB_ok, hasB_ok, hF, Bool.and_eq_true, Bool.and_eq_true] at h3
    obtain ⟨h4, h5, h6⟩ := h3
    refine .inr ⟨y, fun e => ?_, h5, of_decide_eq_true h6⟩
    subst e
    have : Nat.beq y y = true := Nat.beq_refl y
    rw [this] at h4
    cases h4
/-! ### the same with all goals at once -/
def setY (y : Nat) : Nat := [0xAAAAAAAA, 0xCCCCCCCC, 0xF0F0F0F0, 0xFF00FF00, 0xFFFF0000].getD y 0
def setN (y : Nat) : Nat := [0x55555555, 0x33333333, 0x0F0F0F0F, 0x00FF00FF, 0x0000FFFF].getD y 0
def difS (m y : Nat) : Nat := if hasB m y then setN y else setY y
theorem setY_ok : ∀ y : Nat, y < 5 → ∀ g : Nat, g < 32 → (setY y).testBit g = g.testBit y := by decide +kernel
theorem setN_ok : ∀ y : Nat, y < 5 → ∀ g : Nat, g < 32 → (setN y).testBit g = !g.testBit y := by decide +kernel
theorem dif_ok {m y g : Nat} (hy : y < 5) (hg : g < 32) : (difS m y).testBit g = (m ^^^ g).testBit y := by
  unfold difS
  rw [hasB_ok, Nat.testBit_xor]
  by_cases h : m.testBit y = true
  · rw [if_pos h, setN_ok y hy g hg, h]; simp
  · rw [if_neg h, setY_ok y hy g hg]
    have : m.testBit y = false := by simpa using h
    rw [this]; simp
def leftS (F m x : Nat) : List Nat → Nat → Nat
  | [], A => A
  | y :: ys, A => leftS F m x ys (if !Nat.beq y x && hasB F ((m ^^^ (1 <<< x)) ^^^ (1 <<< y)) then A ^^^ (A &&& difS m y) else A)
theorem left_ok {F m x g : Nat} (hg : g < 32) : ∀ (ys : List Nat) (A : Nat), (∀ y ∈ ys, y < 5) → A.testBit g = true → (leftS F m x ys A).testBit g = false → ∃ y ∈ ys, y ≠ x ∧ F.testBit ((m ^^^ (1 <<< x)) ^^^ (1 <<< y)) = true ∧ (m ^^^ g).testBit y = true
  | [], A, _, h1, h2 => by
    have h3 : A.testBit g = false := h2
    rw [h1] at h3; cases h3
  | y :: ys, A, hy, h1, h2 => by
    rw [leftS] at h2
    have tl : ∀ z ∈ ys, z < 5 := fun z hz => hy z (List.mem_cons_of_mem _ hz)
    have up : ∀ A', A'.testBit g = true → (leftS F m x ys A').testBit g = false → ∃ y' ∈ y :: ys, y' ≠ x ∧ F.testBit ((m ^^^ (1 <<< x)) ^^^ (1 <<< y')) = true ∧ (m ^^^ g).testBit y' = true := fun A' a b => by
      obtain ⟨z, z1, z2⟩ := left_ok hg ys A' tl a b
      exact ⟨z, List.mem_cons_of_mem _ z1, z2⟩
    by_cases c : (!Nat.beq y x && hasB F ((m ^^^ (1 <<< x)) ^^^ (1 <<< y))) = true
    · rw [if_pos c] at h2
      rw [Bool.and_eq_true, Bool.not_eq_true', hasB_ok] at c
      have hyx : y ≠ x := fun e => by
        subst e
        rw [Nat.beq_refl] at c; cases c.1
      cases hd : (m ^^^ g).testBit y with
      | true => exact ⟨y, List.mem_cons_self, hyx, c.2, hd⟩
      | false =>
        refine up _ ?_ h2
        rw [Nat.testBit_xor, Nat.testBit_and, dif_ok (hy y List.mem_cons_self) hg, h1, hd]; rfl
    · rw [if_neg c] at h2
      exact up _ h1 h2
def chkF2 (size F : Nat) (ms : List Nat) : Bool :=
  ms.all fun m => (List.range size).all fun x => hasB F (m ^^^ (1 <<< x)) || Nat.beq (leftS F m x (List.range size) (F &&& difS m x)) 0
theorem chk_EX2 {size F : Nat} {ms : List Nat} (h5 : size ≤ 5) (hb : ∀ m ∈ ms, m < 1 <<< size) (hF : ∀ n, F.testBit n = decide (n ∈ ms)) (h : chkF2 size F ms = true) : EX (· ∈ ms) := by
  intro m g hm hg x hx
  have hxs : x < size := by
    refine tb_lt (n := m ^^^ g) ?_ hx
    rw [← Nat.one_shiftLeft]
    exact xor_lt_sh (hb m hm) (hb g hg)
  have hg32 : g < 32 := by
    have h1 := hb g hg
    have h2 : 1 <<< size ≤ 1 <<< 5 := by rw [Nat.one_shiftLeft, Nat.one_shiftLeft]; exact Nat.pow_le_pow_right (by decide) h5
    have : (1 <<< 5 : Nat) = 32 := by decide
    omega
  unfold chkF2 at h
  have h1 := List.all_eq_true.mp (List.all_eq_true.mp h m hm) x (List.mem_range.mpr hxs)
  rw [hasB_ok, hF, Bool.or_eq_true] at h1
  rcases h1 with h1 | h1
  · exact .inl (of_decide_eq_true h1)
  · have h2 := Nat.eq_of_beq_eq_true h1
    obtain ⟨y, y1, y2, y3, y4⟩ := left_ok (F := F) (m := m) (x := x) hg32 (List.range size) (F &&& difS m x) (fun y hy => by have := List.mem_range.mp hy; omega) (by rw [Nat.testBit_and, hF, dif_ok (by omega) hg32, hx]; simpa using hg) (by rw [h2]; simp)
    rw [hF] at y3
    exact .inr ⟨y, y2, y4, of_decide_eq_true y3⟩
/-! ### webs of at most five things -/
def allL : List (Nat × Nat) := [(0, 1), (0, 2), (1, 2), (0, 3), (1, 3), (2, 3), (0, 4), (1, 4), (2, 4), (3, 4)]
def codeL (c : Nat) : List (Nat × Nat) → Nat → List (Nat × Nat)
  | [], _ => []
  | l :: ls, k => if hasB c k then l :: codeL c ls (k + 1) else codeL c ls (k + 1)
def os1 (size : Nat) : List Nat := sizedF size 0 1
def chkW (size c : Nat) : Bool :=
  let ms := pairF size (codeL c allL 0)
  let F := bset ms
  let F2 := bset (ms.flatMap fun m => (os1 size).map fun o => m ^^^ o)
  let ms2 := (List.range (1 <<< size)).filter fun n => hasB F2 n
  chkF2 size F ms && chkF2 size F2 ms2
end W7
end
section
namespace W7
open PySem PySem.Spec PyProof.Rows L2 L3 Evl
open C8 (Cal pe_c Mak pe_mk Met pe_mt pe_mt0)
section
variable {P : Program} {w : World} {K : PySem.W.Frag} {mg : Str → Option Value} {base : Heap} {f : Addr} {fd : FuncData}
def rInt1 : List V → Hp → VK → Prop := fun xs H Q => (∃ i, xs = [.int i] ∧ Q (.int i) H) ∨ ∃ k, xs = [.bl k] ∧ Q (.int (if k then 1 else 0)) H
theorem ev_int1 {σ : L2.St} {H : Hp} {ta : TE} {i : Int} (ha : Ev ta σ H (.int i)) : Ev (tCB rInt1 (tCons ta tNil)) σ H (.int i) := fun H1 e Q q => ha H1 e _ fun H2 e2 => .inl ⟨i, rfl, q H2 e2⟩
def spDraws (K : PySem.W.Frag) : Sp := fun vs H Q _ => ∃ (p : Addr) (ns : List Int), vs = [.ref p] ∧ SqL K H p (ns.map V.int) ∧ ns.length ≤ 100000 ∧ ∀ a H', H a = none → Ex H H' → DrawsAt H' a → Q (.ref a) H'
theorem sc_law_draws : FnScope ["_law_script", "_law_draws_here", "_law_at", "_law_cell", "_law_k", "_law_number"] ["_law_script"] (defScope (top 65)) := ⟨rfl, rfl, rfl, by decide +kernel, rfl, by decide +kernel, by decide +kernel⟩
theorem c_law_draws (F : FnP K "_law_draws" (top 65) f fd) (g : mg "_law_draws" = some (.ref f)) (B : Bi mg) : Cal P w K mg base 1 "_law_draws" (spDraws K) [] := by
  refine mkCal F g sc_law_draws (fun _ _ _ _ _ _ us hl => match us, hl with | [_], _ => rfl) (fun vs H Q E h => ?_) (fun cdv A outer s H vs Q E hr h => ?_)
  · obtain ⟨p, ns, rfl, _⟩ := h
    rfl
  · obtain ⟨p, ns, rfl, hs, hz, q⟩ := h
    refine ⟨_, (pss_cons (ps_set (i := 1) sc_law_draws.nd rfl (by first | exact Or.inl rfl | exact Or.inr rfl) (pe_lst pa_nil)) (pss_cons (ps_for PassesOwn.never rfl (pi_range1 rfl B.range (pa_cons (pe_callB (call_min2 rfl) (by rfl) B.min (by decide +kernel) (pa_cons (pe_callB call_len_seq (by rfl) B.len (by decide +kernel) (pa_cons (pv 0) pa_nil)) (pa_cons (pe_nat 63 pe_int) pa_nil))) pa_nil)) (pg_name (i := 2) sc_law_draws.nd rfl (by first | exact Or.inl rfl | exact Or.inr rfl)) (pss_cons (ps_set (i := 3) sc_law_draws.nd rfl (by first | exact Or.inl rfl | exact Or.inr rfl) (pe_callTy call_int1 (by rfl) B.int (by decide +kernel) (pa_cons (pe_ix (on_ix (K := K)) (pv 0) (pv 2) (fun _ _ => rfl)) pa_nil))) (pss_cons (ps_if (pt_cmpR op_lt (pv 3) pe_int (nomark _)) (pss_one (ps_set (i := 3) sc_law_draws.nd rfl (by first | exact Or.inl rfl | exact Or.inr rfl) (pe_op op_sub pe_int (pv 3)))) pss_nil) (pss_one (ps_if (pt_cmpR op_ge (pv 3) (pe_op op_pow pe_int pe_int) (nomark _)) (pss_one (ps_for PassesOwn.never rfl (pi_range1 rfl B.range (pa_cons (pe_nat 60 pe_int) pa_nil)) (pg_name (i := 4) sc_law_draws.nd rfl (by first | exact Or.inl rfl | exact Or.inr rfl)) (pss_one (ps_if (pt_cmpR op_gt (pv 3) pe_int (nomark _)) (pss_cons (ps_expr (pe_bm PySem.F.plainAttrs_list PySem.F.slot_list_append PySem.F.type_list_append mt_append (pv 1) (pa_cons (pe_op op_mod (pe_callTy call_int1 (by rfl) B.int (by decide +kernel) (pa_cons (pv 3) pa_nil)) pe_int) pa_nil))) (pss_one (ps_set (i := 3) sc_law_draws.nd rfl (by first | exact Or.inl rfl | exact Or.inr rfl) (pe_op op_fdiv (pv 3) pe_int)))) pss_nil)))) (pss_cons (ps_set (i := 5) sc_law_draws.nd rfl (by first | exact Or.inl rfl | exact Or.inr rfl) (pe_op op_mod (pe_callTy call_int1 (by rfl) B.int (by decide +kernel) (pa_cons (pe_op op_add (pe_op op_add (pe_op op_mul (pv 3) pe_int) (pe_op op_mul (pv 2) pe_int)) pe_int) pa_nil)) pe_int)) (pss_one (ps_for PassesOwn.never rfl (pi_range1 rfl B.range (pa_cons (pe_nat 6 pe_int) pa_nil)) (pg_name (i := 4) sc_law_draws.nd rfl (by first | exact Or.inl rfl | exact Or.inr rfl)) (pss_cons (ps_set (i := 5) sc_law_draws.nd rfl (by first | exact Or.inl rfl | exact Or.inr rfl) (pe_op op_mod (pe_callTy call_int1 (by rfl) B.int (by decide +kernel) (pa_cons (pe_op op_add (pe_op op_add (pe_op op_add (pe_op op_mul (pv 5) (pv 5)) (pe_op op_mul (pv 4) pe_int)) (pv 2)) pe_int) pa_nil)) pe_int)) (pss_one (ps_expr (pe_bm PySem.F.plainAttrs_list PySem.F.slot_list_append PySem.F.type_list_append mt_append (pv 1) (pa_cons (pv 5) pa_nil))))))))))))) (pss_cons (ps_expr (pe_bm0 PySem.F.plainAttrs_list PySem.F.slot_list_reverse PySem.F.type_list_reverse mt_reverse (pv 1))) (pss_one (ps_ret (pv 1)))))), ?_⟩
    refine q_asgL (el_lst ea_nil (by decide)) fun d H1 hd1 e1 h1 => ?_
    have hlen : (ns.map V.int).length = ns.length := List.length_map _
    refine q_forR1 (n := ((min ns.length 63 : Nat) : Int)) (ea_cons (ev_min2N (ev_is (ev_len (ev_v 0) (ex_l e1 hs)) (by rw [hlen])) ev_c) ea_nil) (by omega) (fun i σ H' => Ex H H' ∧ ∃ xs : List Int, H' d = some (.lst (xs.map V.int)) ∧ xs.length ≤ 60 * i ∧ ∃ v2 v3 v4 v5, σ = [some (.ref p), some (.ref d), v2, v3, v4, v5]) (fun H2 e2 => ⟨e1.trans e2, [], e2 _ _ h1, by simp, _, _, _, _, rfl⟩) ?_ ?_
    · rintro i σ H' hi ⟨e0, xs, h2, hx, v2, v3, v4, v5, rfl⟩
      have hin : i < ns.length := by omega
      refine q_asg (ev_int1 (ev_ix (ex_l e0 hs) (ev_v 0) (ev_v 2) (v := .int ns[i]) (by rw [List.getElem?_map, List.getElem?_eq_some_iff.mpr ⟨hin, rfl⟩]; rfl))) fun H2 e2 => ?_
      generalize ns[i] = cell
      refine q_ifAsg (b := decide (cell < 0)) (v := .int (if cell < 0 then 1 - cell else cell)) (et_test (ev_op (ev_v 3) ev_c rv_I0)) (fun hb => ?_) (fun hb => ?_) (fun H3 e3 => ?_)
      · rw [if_pos (of_decide_eq_true hb)]
        exact ev_op ev_c (ev_v 3) rv_I0
      · rw [if_neg (of_decide_eq_false hb)]
        rfl
      have h3 : H3 d = some (.lst (xs.map V.int)) := e3 _ _ (e2 _ _ h2)
      have e3 : Ex H H3 := e0.trans (e2.trans e3)
      generalize (if cell < 0 then 1 - cell else cell) = c
      refine s_if (et_test (ev_op (ev_v 3) (ev_op ev_c ev_c (rv_I (by unfold CPow; decide))) rv_I0)) (fun hb H4 e4 => ?_) (fun hb H4 e4 => ?_)
      · refine s_forR1 (n := ((60 : Nat) : Int)) (ea_cons ev_c ea_nil) (by decide) (fun k σ H' => Ex H H' ∧ ∃ xs : List Int, H' d = some (.lst (xs.map V.int)) ∧ xs.length ≤ 60 * i + k ∧ ∃ c v4, σ = [some (.ref p), some (.ref d), some (.int (i : Int)), some (.int c), v4, v5]) (fun H5 e5 => ⟨e3.trans (e4.trans e5), xs, e5 _ _ (e4 _ _ h3), by omega, _, _, rfl⟩) ?_ ?_
        · rintro k σ H' hk ⟨e5, xs, h5, hx, c, v4, rfl⟩
          refine s_when (et_test (ev_op (ev_v 3) ev_c rv_I0)) (fun hb H6 e6 => ?_) (fun hb H6 e6 => ⟨e5.trans e6, xs, e6 _ _ h5, by omega, _, _, rfl⟩)
          refine s_app (D := { nx := _, rt := _, bk := _, ct := _ }) (e6 _ _ h5) (ev_v 1) (ev_op (ev_int1 (ev_v 3)) ev_c (rv_I (by show (0 : Int) < 24; decide))) (by rw [List.length_map]; omega) fun H7 e7 => ?_
          refine s_asg (ev_op (ev_v 3) ev_c (rv_I (by unfold CDiv; decide))) fun H8 e8 => ⟨(Ex.mut (e5.trans (e6.trans e7)) hd1).trans e8, xs ++ [c % 24], ?_, by rw [List.length_append]; simp; omega, _, _, rfl⟩
          rw [e8 _ _ upd_same, List.map_append]; rfl
        · rintro σ H' ⟨e5, xs, h5, hx, c, v4, rfl⟩
          exact ⟨e5, xs, h5, by simpa [Nat.mul_add] using hx, _, _, _, _, rfl⟩
      · refine q_asg (ev_op (ev_int1 (ev_op (ev_op (ev_op (ev_v 3) ev_c (rv_I (by unfold CMul; omega))) (ev_op (ev_v 2) ev_c (rv_I (by unfold CMul; omega))) rv_I0) ev_c rv_I0)) ev_c (rv_I (by show (0 : Int) < 2147483647; decide))) fun H5 e5 => ?_
        refine s_forR1 (n := ((6 : Nat) : Int)) (ea_cons ev_c ea_nil) (by decide) (fun k σ H' => Ex H H' ∧ ∃ xs : List Int, H' d = some (.lst (xs.map V.int)) ∧ xs.length ≤ 60 * i + k ∧ ∃ (n : Int) (v4 : Option V), 0 ≤ n ∧ n < 2147483647 ∧ σ = [some (.ref p), some (.ref d), some (.int (i : Int)), some (.int c), v4, some (.int n)]) (fun H6 e6 => ⟨e3.trans (e4.trans (e5.trans e6)), xs, e6 _ _ (e5 _ _ (e4 _ _ h3)), by omega, _, _, Int.emod_nonneg _ (by decide), Int.emod_lt_of_pos _ (by decide), rfl⟩) ?_ ?_
        · rintro k σ H' hk ⟨e6, xs, h6, hx, n, v4, hn0, hn1, rfl⟩
          refine q_asg (ev_op (ev_int1 (ev_op (ev_op (ev_op (ev_op (ev_v 5) (ev_v 5) (rv_I (by unfold CMul; omega))) (ev_op (ev_v 4) ev_c (rv_I (by unfold CMul; omega))) rv_I0) (ev_v 2) rv_I0) ev_c rv_I0)) ev_c (rv_I (by show (0 : Int) < 2147483563; decide))) fun H7 e7 => ?_
          refine s_app (D := { nx := _, rt := _, bk := _, ct := _ }) (e7 _ _ h6) (ev_v 1) (ev_v 5) (by rw [List.length_map]; omega) fun H8 e8 => ?_
          refine ⟨Ex.mut (e6.trans (e7.trans e8)) hd1, xs ++ [(n * n + (k : Int) * 48271 + (i : Int) + 5) % 2147483563], ?_, by rw [List.length_append]; simp; omega, _, _, Int.emod_nonneg _ (by decide), Int.lt_of_lt_of_le (Int.emod_lt_of_pos _ (by decide)) (by decide : (2147483563 : Int) ≤ 2147483647), rfl⟩
          rw [upd_same, List.map_append]; rfl
        · rintro σ H' ⟨e6, xs, h6, hx, n, v4, hn0, hn1, rfl⟩
          refine ⟨e6, xs, h6, ?_, _, _, _, _, rfl⟩
          have : (((6 : Nat) : Int)).toNat = 6 := rfl
          omega
    · rintro σ H' ⟨e0, xs, h2, hx, v2, v3, v4, v5, rfl⟩
      refine ⟨.ref d, rfl, .inl ⟨rfl, _, sq_of h2⟩, d, _, rfl, rfl, h2, ?_⟩
      refine s_ret (ev_v 1) fun H3 e3 => q d H3 hd1 ((Ex.mut e0 hd1).trans e3) ⟨xs.reverse, ?_⟩
      rw [e3 _ _ upd_same, List.map_reverse]
end
end W7
end
section
namespace W7
open PySem PySem.Spec PyProof.Rows L2 L3 Evl
open C8 (Cal pe_c Mak pe_mk Met pe_mt pe_mt0)
def iSeqA (K : PySem.W.Frag) (tl : TE) : TI := fun σ H R => tl σ H fun x H1 => ∃ a, x = .ref a ∧ (((∃ xs, SqL K H1 a xs) ∧ R (Itl K a) H1) ∨ ((∃ xs, SqT K H1 a xs) ∧ R (Itt K a) H1))
theorem pi_seqA {X : Cx} {tg l : Expr} {tl : TE} (hl : PE X l tl) : PI X tg l (iSeqA X.K tl) := by
  constructor
  intro pins s σ H R I h
  refine thn (hl.run pins s σ H _ I h) fun v s1 came => ?_
  obtain ⟨x, H1, I1, r, a, rfl, ⟨⟨xs, hx⟩, q⟩ | ⟨⟨xs, hx⟩, q⟩⟩ := came
  · obtain rfl : v = .ref a := r
    obtain ⟨its, _, p, _⟩ := I1.list hx
    exact wpAny_pyIter_list p.isList (pi_one (tk := s1.toks) I1 _ (turn_list a _) ⟨_, Heap.get?_push_size s1.heap rfl, rfl, rfl⟩ q)
  · obtain rfl : v = .ref a := r
    obtain ⟨its, _, p, _⟩ := I1.tuple hx
    exact wpAny_pyIter_tuple p (pi_one (tk := s1.toks) I1 _ (turn_tuple a _) ⟨_, Heap.get?_push_size s1.heap rfl, rfl, rfl⟩ q)
/-- a list or tuple of naturals -/
def LotA (H : Hp) (p : Addr) (ns : List Nat) : Prop := H p = some (.lst (nv ns)) ∨ H p = some (.tup (nv ns))
theorem LotA.ex {H H' : Hp} {p : Addr} {ns : List Nat} (h : LotA H p ns) (e : Ex H H') : LotA H' p ns := h.imp (e _ _) (e _ _)
theorem LotA.sq {K : PySem.W.Frag} {H : Hp} {p : Addr} {ns : List Nat} (h : LotA H p ns) : SqL K H p (nv ns) ∨ SqT K H p (nv ns) := h.imp sq_of st_of
/-- a lot of things below size -/
def LotOk (size : Nat) (ns : List Nat) : Prop := ns.Nodup ∧ (∀ n ∈ ns, n < size) ∧ size ≤ 12
theorem cut_take {xs : List V} {i : Nat} (h : i ≤ xs.length) : cutV xs none (some (i : Int)) = xs.take i := by
  unfold cutV
  rw [HT.sIx_nat, HT.sIx_none]
  simp [Nat.min_eq_left h]
theorem inV_nat {n : Nat} : ∀ {ms : List Nat}, inV (.int (n : Nat)) (nv ms) = decide (n ∈ ms)
  | [] => rfl
  | m :: ms => by
    have e : inV (.int (n : Nat)) (nv (m :: ms)) = (eqV (.int (m : Nat)) (.int (n : Nat)) || inV (.int (n : Nat)) (nv ms)) := rfl
    rw [e, inV_nat]
    have e2 : eqV (.int (m : Nat)) (.int (n : Nat)) = decide (n = m) := by
      show ((m : Int) == (n : Int)) = _
      by_cases h : n = m
      · subst h; simp
      · have : (m : Int) ≠ (n : Int) := by omega
        simp [h, this]
    rw [e2]
    by_cases h : n = m <;> simp [h]
theorem nv_flat (ns : List Nat) : (nv ns).all flatV = true := by
  unfold nv
  rw [List.all_map]
  exact List.all_eq_true.mpr fun m hm => rfl
section
variable {P : Program} {w : World} {K : PySem.W.Frag} {mg : Str → Option Value} {base : Heap} {f : Addr} {fd : FuncData}
def spIsInt : Sp := fun vs H Q _ => ∃ i : Int, vs = [.int i] ∧ RetV (.bl true) H Q
theorem sc_is_int : FnScope ["value"] ["value"] (defScope (top 12)) := ⟨rfl, rfl, rfl, by decide +kernel, rfl, by decide +kernel, by decide +kernel⟩
theorem c_is_int (F : FnP K "is_int" (top 12) f fd) (g : mg "is_int" = some (.ref f)) (B : Bi mg) : Cal P w K mg base 1 "is_int" spIsInt [] := by
  refine mkCal F g sc_is_int (fun _ _ _ _ _ _ us hl => match us, hl with | [_], _ => rfl) (fun vs H Q E h => ?_) (fun cdv A outer s H vs Q E hr h => ?_)
  · obtain ⟨i, rfl, _⟩ := h
    rfl
  · obtain ⟨i, rfl, q⟩ := h
    refine ⟨_, (pss_one (ps_ret (pe_and (pe_callB call_isi (by rfl) B.isinstance (by decide +kernel) (pa_cons (pv 0) (pa_cons (pe_bltn (v := .ty "int") (by rfl) B.int (by decide +kernel) rfl) pa_nil))) (pe_one (pe_not (pe_callB call_isi (by rfl) B.isinstance (by decide +kernel) (pa_cons (pv 0) (pa_cons (pe_bltn (v := .ty "bool") (by rfl) B.bool (by decide +kernel) rfl) pa_nil)))))))), ?_⟩
    exact s_ret (ev_andV (a := true) (b := !false) (ev_cb (ea_cons (ev_v 0) (ea_cons ev_c ea_nil)) (fun H1 e Q q => ⟨_, _, _, _, true, rfl, .ty _, .base (.int _), rfl, q H1 (Ex.refl _)⟩))
      (fun _ => ev_notV (ev_cb (ea_cons (ev_v 0) (ea_cons ev_c ea_nil)) (fun H1 e Q q => ⟨_, _, _, _, false, rfl, .ty _, .base (.int _), rfl, q H1 (Ex.refl _)⟩)))) q
def spIsList : Sp := fun vs H Q _ => ∃ (p : Addr) (xs : List V), vs = [.ref p] ∧ (H p = some (.lst xs) ∨ H p = some (.tup xs)) ∧ RetV (.bl true) H Q
theorem sc_is_list : FnScope ["value"] ["value"] (defScope (top 13)) := ⟨rfl, rfl, rfl, by decide +kernel, rfl, by decide +kernel, by decide +kernel⟩
theorem c_is_list (F : FnP K "is_list" (top 13) f fd) (g : mg "is_list" = some (.ref f)) (B : Bi mg) : Cal P w K mg base 1 "is_list" spIsList [] := by
  refine mkCal F g sc_is_list (fun _ _ _ _ _ _ us hl => match us, hl with | [_], _ => rfl) (fun vs H Q E h => ?_) (fun cdv A outer s H vs Q E hr h => ?_)
  · obtain ⟨i, ns, rfl, _⟩ := h
    rfl
  · obtain ⟨p, ns, rfl, hp, q⟩ := h
    refine ⟨_, (pss_one (ps_ret (pe_callB call_isiT (by rfl) B.isinstance (by decide +kernel) (pa_cons (pv 0) (pa_cons (pe_tup (pa_cons (pe_bltn (v := .ty "tuple") (by rfl) B.tuple (by decide +kernel) rfl) (pa_cons (pe_bltn (v := .ty "list") (by rfl) B.list (by decide +kernel) rfl) pa_nil))) pa_nil))))), ?_⟩
    refine ⟨.ref p, rfl, (by decide : 2 ≤ sizeLine), fun l hl => ?_⟩
    have ee := Ex.new (o := .tup [.ty "tuple", .ty "list"]) hl
    rcases (hp.imp (ee _ _) (ee _ _)) with h | h
    · exact ⟨.ref p, l, [.ty "tuple", .ty "list"], .type "list", [.type "tuple", .type "list"], true, rfl, upd_same, .cons (.ty _) (.cons (.ty _) .nil), .base (.lst h), rfl, q _ (Ex.new hl)⟩
    · exact ⟨.ref p, l, [.ty "tuple", .ty "list"], .type "tuple", [.type "tuple", .type "list"], true, rfl, upd_same, .cons (.ty _) (.cons (.ty _) .nil), .base (.tup h), rfl, q _ (Ex.new hl)⟩
def spWrong : Sp := fun vs H Q _ => ∃ (p : Addr) (ns : List Nat) (size : Nat), vs = [.ref p, .int size] ∧ LotA H p ns ∧ LotOk size ns ∧ RetV .non H Q
theorem sc_wrong_entry : FnScope ["things", "size", "place", "thing"] ["things", "size"] (defScope (top 14)) := ⟨rfl, rfl, rfl, by decide +kernel, rfl, by decide +kernel, by decide +kernel⟩
theorem c_wrong_entry (F : FnP K "wrong_entry" (top 14) f fd) (g : mg "wrong_entry" = some (.ref f)) (B : Bi mg) (c_is_int : Cal P w K mg base 1 "is_int" spIsInt []) : Cal P w K mg base 2 "wrong_entry" spWrong [] := by
  refine mkCal F g sc_wrong_entry (fun _ _ _ _ _ _ us hl => match us, hl with | [_, _], _ => rfl) (fun vs H Q E h => ?_) (fun cdv A outer s H vs Q E hr h => ?_)
  · obtain ⟨i, ns, size, rfl, _⟩ := h
    rfl
  · obtain ⟨p, ns, size, rfl, hp, ⟨hnd, hlt, h12⟩, q⟩ := h
    refine ⟨_, (pss_cons (ps_for PassesOwn.never rfl (pi_enumA (by rfl) B.enumerate (pa_cons (pv 0) pa_nil)) (pg_tup rfl (pgs_cons (pg_name (i := 2) sc_wrong_entry.nd rfl (by first | exact Or.inl rfl | exact Or.inr rfl)) (pgs_cons (pg_name (i := 3) sc_wrong_entry.nd rfl (by first | exact Or.inl rfl | exact Or.inr rfl)) pgs_nil))) (pss_cons (ps_if (PW.pt (pw_or (pt_not (pt_val (pe_c c_is_int hr (by decide) rfl (pa_cons (pv 3) pa_nil)))) (pw_or (pt_cmpR on_lt (pv 3) (pe_nat 0 pe_int) (nomark _)) (pw_or1 (pt_cmpR op_in_seq (pv 3) (pe_slice (sl_list.or sl_tup) (pv 0) po_none (po_some (pv 2))) rfl))))) (pss_one (ps_ret (pv 2))) pss_nil) (pss_one (ps_if (PW.pt (pw_and (pt_cmp (pc_notN (pv 1))) (pw_and1 (pt_cmpR on_ge (pv 3) (pv 1) (nomark _))))) (pss_one (ps_ret (pv 2))) pss_nil)))) (pss_one (ps_ret pe_non))), ?_⟩
    have cut : ∀ {i n : Nat}, ns[i]? = some n → inV (.int (n : Nat)) (cutV (nv ns) none (some (i : Int))) = false := fun {i n} hn => by
      have hi := (List.getElem?_eq_some_iff.mp hn).1
      rw [cut_take (by rw [nv_len]; omega)]
      have e : (nv ns).take i = nv (ns.take i) := by unfold nv; rw [List.map_take]
      rw [e, inV_nat]
      refine decide_eq_false fun h => ?_
      obtain ⟨j, hj, e2⟩ := List.getElem_of_mem h
      rw [List.length_take] at hj
      rw [List.getElem_take] at e2
      have := (List.getElem?_eq_some_iff.mp hn).2
      rw [← this] at e2
      exact (List.pairwise_iff_getElem.mp hnd) j i (by omega) hi (by omega) e2
    rcases hp with hp | hp
    · refine ⟨.ref p, rfl, p, nv ns, rfl, .inl ⟨sq_of hp, for_enumL (fun i σ H' => Ex H H' ∧ ∃ v2 v3, σ = [some (.ref p), some (.int size), v2, v3]) ⟨Ex.refl H, _, _, rfl⟩ (fun i σ H' _ h => sq_of (h.1 _ _ hp)) ?_ ?_⟩⟩
      · rintro i x σ H' T hx ⟨e0, v2, v3, rfl⟩ hT
        obtain ⟨n, hn, rfl⟩ := nv_get hx
        have hns := hlt n (List.mem_of_getElem? hn)
        refine ⟨T, [.int (i : Nat), .int (n : Nat)], rfl, st_of upd_same, rfl, _, _, rfl, _, _, rfl, rfl, ?_⟩
        have e0 := e0.trans (Ex.new (o := .tup [.int (i : Nat), .int (n : Nat)]) hT)
        refine q_when (b := !true || (decide (n < 0) || false)) (et_or (et_not (et_B (ev_call (ea_cons (ev_v 3) ea_nil) fun H2 e2 Q2 q2 E2 => ⟨_, rfl, q2⟩))) fun _ => et_or (et_test (ev_n (ev_v 3) ev_c)) fun _ => ?_) (fun hb => absurd hb (by simp)) (fun _ H3 e3 => ?_)
        · intro H3 e3 Q3 q3
          refine ⟨.int (n : Nat), rfl, .ref p, rfl, .int (i : Nat), rfl, _, rfl, .inl ⟨p, nv ns, rfl, sq_of (e3 _ _ (e0 _ _ hp)), fun l hl => ⟨l, _, rfl, .inl (sq_of upd_same), rfl, ?_, ?_⟩⟩⟩
          · rw [cut_take (by rw [nv_len]; have := (List.getElem?_eq_some_iff.mp hn).1; omega)]
            have e : (nv ns).take i = nv (ns.take i) := by unfold nv; rw [List.map_take]
            rw [e]; exact nv_flat _
          · refine ⟨_, rfl, ?_⟩
            have q4 : ∀ o, Q3 false (upd H3 l o) := fun o => q3 _ (Ex.new hl)
            rw [← cut hn] at q4
            exact q4 _
        · refine s_when (b := true && false) (et_and (et_B (fun H4 e4 Q4 q4 => ⟨.int size, rfl, q4 H4 (Ex.refl _)⟩)) fun _ => et_is (et_test (ev_n (ev_v 3) (ev_v 1))) (decide_eq_false (by omega))) (fun hb => absurd hb (by simp)) (fun _ H4 e4 => ⟨e0.trans (e3.trans e4), _, _, rfl⟩)
      · rintro σ H' ⟨e0, v2, v3, rfl⟩
        exact q H' e0
    · refine ⟨.ref p, rfl, p, nv ns, rfl, .inr ⟨st_of hp, for_enumA (fun i σ H' => Ex H H' ∧ ∃ v2 v3, σ = [some (.ref p), some (.int size), v2, v3]) ⟨Ex.refl H, _, _, rfl⟩ (fun i σ H' _ h => st_of (h.1 _ _ hp)) ?_ ?_⟩⟩
      · rintro i x σ H' T hx ⟨e0, v2, v3, rfl⟩ hT
        obtain ⟨n, hn, rfl⟩ := nv_get hx
        have hns := hlt n (List.mem_of_getElem? hn)
        refine ⟨T, [.int (i : Nat), .int (n : Nat)], rfl, st_of upd_same, rfl, _, _, rfl, _, _, rfl, rfl, ?_⟩
        have e0 := e0.trans (Ex.new (o := .tup [.int (i : Nat), .int (n : Nat)]) hT)
        refine q_when (b := !true || (decide (n < 0) || false)) (et_or (et_not (et_B (ev_call (ea_cons (ev_v 3) ea_nil) fun H2 e2 Q2 q2 E2 => ⟨_, rfl, q2⟩))) fun _ => et_or (et_test (ev_n (ev_v 3) ev_c)) fun _ => ?_) (fun hb => absurd hb (by simp)) (fun _ H3 e3 => ?_)
        · intro H3 e3 Q3 q3
          refine ⟨.int (n : Nat), rfl, .ref p, rfl, .int (i : Nat), rfl, _, rfl, .inr ⟨p, nv ns, rfl, st_of (e3 _ _ (e0 _ _ hp)), ?_, fun l hl => ⟨l, _, rfl, .inr (st_of upd_same), rfl, ?_, ?_⟩⟩⟩
          · rw [HT.sIx_nat, nv_len]
            have := (List.getElem?_eq_some_iff.mp hn).1
            rintro ⟨_, h⟩
            omega
          · rw [cut_take (by rw [nv_len]; have := (List.getElem?_eq_some_iff.mp hn).1; omega)]
            have e : (nv ns).take i = nv (ns.take i) := by unfold nv; rw [List.map_take]
            rw [e]; exact nv_flat _
          · refine ⟨_, rfl, ?_⟩
            have q4 : ∀ o, Q3 false (upd H3 l o) := fun o => q3 _ (Ex.new hl)
            rw [← cut hn] at q4
            exact q4 _
        · refine s_when (b := true && false) (et_and (et_B (fun H4 e4 Q4 q4 => ⟨.int size, rfl, q4 H4 (Ex.refl _)⟩)) fun _ => et_is (et_test (ev_n (ev_v 3) (ev_v 1))) (decide_eq_false (by omega))) (fun hb => absurd hb (by simp)) (fun _ H4 e4 => ⟨e0.trans (e3.trans e4), _, _, rfl⟩)
      · rintro σ H' ⟨e0, v2, v3, rfl⟩
        exact q H' e0
def spIsLot : Sp := fun vs H Q _ => ∃ (p : Addr) (ns : List Nat) (size : Nat), vs = [.ref p, .int size] ∧ LotA H p ns ∧ LotOk size ns ∧ RetV (.bl true) H Q
theorem sc_is_lot : FnScope ["lot", "size"] ["lot", "size"] (defScope (top 15)) := ⟨rfl, rfl, rfl, by decide +kernel, rfl, by decide +kernel, by decide +kernel⟩
theorem c_is_lot (F : FnP K "is_lot" (top 15) f fd) (g : mg "is_lot" = some (.ref f)) (B : Bi mg) (c_is_list : Cal P w K mg base 1 "is_list" spIsList []) (c_wrong_entry : Cal P w K mg base 2 "wrong_entry" spWrong []) : Cal P w K mg base 3 "is_lot" spIsLot [] := by
  refine mkCal F g sc_is_lot (fun _ _ _ _ _ _ us hl => match us, hl with | [_, _], _ => rfl) (fun vs H Q E h => ?_) (fun cdv A outer s H vs Q E hr h => ?_)
  · obtain ⟨i, ns, size, rfl, _⟩ := h
    rfl
  · obtain ⟨p, ns, size, rfl, hp, ok, q⟩ := h
    refine ⟨_, (pss_one (ps_ret (pe_and (pe_c c_is_list hr (by decide) rfl (pa_cons (pv 0) pa_nil)) (pe_one (pe_cmp (pc_isN (pe_c c_wrong_entry hr (by decide) rfl (pa_cons (pv 0) (pa_cons (pv 1) pa_nil)))) rfl))))), ?_⟩
    refine ⟨.ref p, rfl, p, nv ns, rfl, hp, fun H1 e1 => ⟨true, rfl, ?_⟩⟩
    refine ⟨.ref p, rfl, .int size, rfl, p, ns, size, rfl, hp.ex e1, ok, fun H2 e2 => ?_⟩
    exact q H2 (e1.trans e2)
def spLotOf : Sp := fun vs H Q _ => ∃ (p : Addr) (ns : List Nat) (size : Nat), vs = [.ref p, .int size] ∧ LotA H p ns ∧ LotOk size ns ∧ ns.Pairwise (· ≤ ·) ∧ RetU (nv ns) H Q
theorem sorted_eq {xs ys : List Nat} (h : xs.Perm ys) (h1 : xs.Pairwise (· ≤ ·)) (h2 : ys.Pairwise (· ≤ ·)) : xs = ys := h.eq_of_pairwise (fun a b _ _ => Nat.le_antisymm) h1 h2
theorem sc_lot_of : FnScope ["lot", "size", "place"] ["lot", "size"] (defScope (top 16)) := ⟨rfl, rfl, rfl, by decide +kernel, rfl, by decide +kernel, by decide +kernel⟩
theorem c_lot_of (F : FnP K "lot_of" (top 16) f fd) (g : mg "lot_of" = some (.ref f)) (B : Bi mg) (c_is_list : Cal P w K mg base 1 "is_list" spIsList []) (c_wrong_entry : Cal P w K mg base 2 "wrong_entry" spWrong []) : Cal P w K mg base 3 "lot_of" spLotOf [] := by
  refine mkCal F g sc_lot_of (fun _ _ _ _ _ _ us hl => match us, hl with | [_, _], _ => rfl) (fun vs H Q E h => ?_) (fun cdv A outer s H vs Q E hr h => ?_)
  · obtain ⟨i, ns, size, rfl, _⟩ := h
    rfl
  · obtain ⟨p, ns, size, rfl, hp, ok, hso, q⟩ := h
    refine ⟨_, (pss_cons (ps_if (pt_not (pt_val (pe_c c_is_list hr (by decide) rfl (pa_cons (pv 0) pa_nil)))) (pss_one ps_never) pss_nil) (pss_cons (ps_set (i := 2) sc_lot_of.nd rfl (by first | exact Or.inl rfl | exact Or.inr rfl) (pe_c c_wrong_entry hr (by decide) rfl (pa_cons (pv 0) (pa_cons (pv 1) pa_nil)))) (pss_cons (ps_if (pt_cmp (pc_notN (pv 2))) (pss_one ps_never) pss_nil) (pss_one (ps_ret (pe_callTy call_tuple_of (by rfl) B.tuple (by decide +kernel) (pa_cons (pe_callB cr_sortedA (by rfl) B.sorted (by decide +kernel) (pa_cons (pv 0) pa_nil)) pa_nil))))))), ?_⟩
    refine ⟨.ref p, rfl, p, nv ns, rfl, hp, fun H1 e1 => ⟨true, rfl, ?_⟩⟩
    refine q_asg (v := .non) (ev_call (ea_cons (ev_v 0) (ea_cons (ev_v 1) ea_nil)) fun H2 e2 Q2 q2 E2 => ⟨p, ns, size, rfl, (hp.ex e1).ex e2, ok, q2⟩) fun H2 e2 => ?_
    refine ⟨.non, rfl, false, rfl, ?_⟩
    refine ⟨.ref p, rfl, p, ns.map fun n => ((n : Nat) : Int), rfl, ?_, fun is l h3 h4 hl => ?_⟩
    · have := LotA.sq (K := K) ((hp.ex e1).ex e2)
      unfold nv at this
      rw [List.map_map]
      exact this
    · obtain ⟨ms, rfl⟩ : ∃ ms : List Nat, is = ms.map fun n => ((n : Nat) : Int) := by
        refine ⟨is.map Int.toNat, ?_⟩
        rw [List.map_map]
        have : ∀ i ∈ is, ((fun n => ((n : Nat) : Int)) ∘ Int.toNat) i = id i := fun i hi => by
          obtain ⟨n, _, rfl⟩ := List.mem_map.mp (h3.mem_iff.mp hi)
          rfl
        rw [List.map_congr_left this, List.map_id]
      have h5 : ms.Perm ns := by
        have := h3.map Int.toNat
        simpa [List.map_map, Function.comp_def] using this
      have h6 : ms.Pairwise (· ≤ ·) := by
        rw [List.pairwise_map] at h4
        exact h4.imp fun h => by omega
      have := sorted_eq h5 h6 hso
      subst this
      refine ⟨l, nv ms, rfl, .inl ⟨sq_of ?_, fun l2 hl2 => ?_⟩⟩
      · rw [upd_same]; unfold nv; rw [List.map_map]; rfl
      · exact q l2 _ (fresh_back (e1.trans e2) (fresh_back (Ex.new hl) hl2)) ((e1.trans e2).trans ((Ex.new hl).trans (Ex.new hl2))) upd_same
/-- mask_of -/
def orF (ns : List Nat) : Nat := ns.foldl (fun a x => a ||| (1 <<< x)) 0
def spMaskOf : Sp := fun vs H Q _ => ∃ (p : Addr) (ns : List Nat), vs = [.ref p] ∧ LotA H p ns ∧ (∀ n ∈ ns, n < 64) ∧ RetV (.int (orF ns : Nat)) H Q
theorem sc_mask_of : FnScope ["lot", "mask", "thing"] ["lot"] (defScope (top 21)) := ⟨rfl, rfl, rfl, by decide +kernel, rfl, by decide +kernel, by decide +kernel⟩
theorem c_mask_of (F : FnP K "mask_of" (top 21) f fd) (g : mg "mask_of" = some (.ref f)) (B : Bi mg) : Cal P w K mg base 1 "mask_of" spMaskOf [] := by
  refine mkCal F g sc_mask_of (fun _ _ _ _ _ _ us hl => match us, hl with | [_], _ => rfl) (fun vs H Q E h => ?_) (fun cdv A outer s H vs Q E hr h => ?_)
  · obtain ⟨p, ns, rfl, _⟩ := h
    rfl
  · obtain ⟨p, ns, rfl, hs, hb, q⟩ := h
    refine ⟨_, (pss_cons (ps_set (i := 1) sc_mask_of.nd rfl (by first | exact Or.inl rfl | exact Or.inr rfl) (pe_nat 0 pe_int)) (pss_cons (ps_for PassesOwn.never rfl (pi_seqA (pv 0)) (pg_name (i := 2) sc_mask_of.nd rfl (by first | exact Or.inl rfl | exact Or.inr rfl)) (pss_one (ps_set (i := 1) sc_mask_of.nd rfl (by first | exact Or.inl rfl | exact Or.inr rfl) (pe_op on_or (pv 1) (pe_op on_shl (pe_nat 1 pe_int) (pv 2)))))) (pss_one (ps_ret (pv 1))))), ?_⟩
    refine q_asg ev_c fun H1 e1 => ?_
    rcases hs with hs | hs
    · refine ⟨.ref p, rfl, p, rfl, .inl ⟨⟨nv ns, sq_of (e1 _ _ hs)⟩, for_list (xs := nv ns) (fun i σ H' => Ex H H' ∧ ∃ v, σ = [some (.ref p), some (.int (orF (ns.take i) : Nat)), v]) ⟨e1, _, rfl⟩ (fun i σ H' _ h => sq_of (h.1 _ _ hs)) ?_ ?_⟩⟩
      · rintro i x σ H' hx ⟨e0, v, rfl⟩
        obtain ⟨n, hn, rfl⟩ := nv_get hx
        show tAsg _ _ _ [some (.ref p), some (.int (orF (ns.take i) : Nat)), some (.int (n : Nat))] H'
        refine s_asg (ev_n (ev_v 1) (ev_nc ev_c (ev_v 2) ⟨by decide, hb n (List.mem_of_getElem? hn)⟩)) fun H2 e2 => ⟨e0.trans e2, some (.int (n : Nat)), ?_⟩
        unfold orF
        rw [List.take_add_one, hn, Option.toList_some, List.foldl_append]
        rfl
      · rintro σ H' ⟨e0, v, rfl⟩
        refine s_ret (ev_v 1) fun H2 e2 => ?_
        rw [nv_len, List.take_length]
        exact q H2 (e0.trans e2)
    · refine ⟨.ref p, rfl, p, rfl, .inr ⟨⟨nv ns, st_of (e1 _ _ hs)⟩, for_tup (xs := nv ns) (fun i σ H' => Ex H H' ∧ ∃ v, σ = [some (.ref p), some (.int (orF (ns.take i) : Nat)), v]) ⟨e1, _, rfl⟩ (fun i σ H' _ h => st_of (h.1 _ _ hs)) ?_ ?_⟩⟩
      · rintro i x σ H' hx ⟨e0, v, rfl⟩
        obtain ⟨n, hn, rfl⟩ := nv_get hx
        show tAsg _ _ _ [some (.ref p), some (.int (orF (ns.take i) : Nat)), some (.int (n : Nat))] H'
        refine s_asg (ev_n (ev_v 1) (ev_nc ev_c (ev_v 2) ⟨by decide, hb n (List.mem_of_getElem? hn)⟩)) fun H2 e2 => ⟨e0.trans e2, some (.int (n : Nat)), ?_⟩
        unfold orF
        rw [List.take_add_one, hn, Option.toList_some, List.foldl_append]
        rfl
      · rintro σ H' ⟨e0, v, rfl⟩
        refine s_ret (ev_v 1) fun H2 e2 => ?_
        rw [nv_len, List.take_length]
        exact q H2 (e0.trans e2)
def spLotFrom : Sp := fun vs H Q _ => ∃ n : Nat, vs = [.int n] ∧ n < 64 ∧ RetU (nv (lotF n)) H Q
theorem lot_bits : ∀ n : Nat, n < 64 → (List.range (Builtin.Int.intBits (n : Int))).filter (fun i => decide (((n >>> i) &&& 1 : Nat) ≠ 0)) = lotF n := by decide +kernel
theorem sc_lot_from : FnScope ["mask", "thing"] ["mask"] (defScope (top 22)) := ⟨rfl, rfl, rfl, by decide +kernel, rfl, by decide +kernel, by decide +kernel⟩
theorem c_lot_from (F : FnP K "lot_from" (top 22) f fd) (g : mg "lot_from" = some (.ref f)) (B : Bi mg) : Cal P w K mg base 1 "lot_from" spLotFrom [] := by
  refine mkCal F g sc_lot_from (fun _ _ _ _ _ _ us hl => match us, hl with | [_], _ => rfl) (fun vs H Q E h => ?_) (fun cdv A outer s H vs Q E hr h => ?_)
  · obtain ⟨n, rfl, _⟩ := h
    rfl
  · obtain ⟨n, rfl, h64, q⟩ := h
    refine ⟨_, (pss_one (ps_ret (pe_callTy call_tuple_of (by rfl) B.tuple (by decide +kernel) (pa_cons (pe_lc (own := [("thing", 1)]) (g := gName 1) (by rfl) sc_lot_from.nd (pi_range1 rfl B.range (pa_cons (pe_bits (pv 0)) pa_nil)) (blkOk_by (own := [("thing", 1)]) (N := ["mask", "thing"]) (sc := defScope (top 22)) (by decide +kernel)) (fun _ _ _ _ _ => (pg_name (i := 1) sc_lot_from.nd rfl (by first | exact Or.inl rfl | exact Or.inr rfl))) (fun _ _ _ _ _ => (pts_one (pt_truthK (K := K) rfl (pe_op on_and (pe_op on_shr (pv 0) (pv 1)) (pe_nat 1 pe_int)) (fun _ => rfl)))) (fun _ _ _ _ _ => (pv 1))) pa_nil)))), ?_⟩
    have hl : Builtin.Int.intBits (n : Int) ≤ 40000 := by
      have : ∀ n : Nat, n < 64 → Builtin.Int.intBits (n : Int) ≤ 40000 := by decide +kernel
      exact this n h64
    refine s_retU (eu_tupOf (el_rng (n := Builtin.Int.intBits (n : Int)) (fun i => decide (((n >>> i) &&& 1 : Nat) ≠ 0)) (fun i => .int (i : Nat)) (ea_cons (fun H1 e Q q => ⟨.int n, rfl, n, rfl, q H1 (Ex.refl _)⟩) ea_nil) hl (fun _ => rfl) (fun i H1 e hi => fun H2 e2 Q q => ?_) (fun i H1 e hi hf => ev_v 1))) fun p H1 hp e h1 => q p H1 hp e ?_
    · refine (ev_n (ev_n (ev_v 0) (ev_v 1)) ev_c : Ev _ _ H1 _) H2 e2 _ fun H3 e3 => ⟨_, rfl, ?_⟩
      have e : ((((n >>> i) &&& 1 : Nat) : Int) != 0) = decide (((n >>> i) &&& 1 : Nat) ≠ 0) := by
        by_cases h : (n >>> i) &&& 1 = 0
        · simp [h]
        · have : (((n >>> i) &&& 1 : Nat) : Int) ≠ 0 := by omega
          simp only [bne_iff_ne, ne_eq, this, not_false_eq_true, h, decide_true]
      have := q H3 e3
      rw [← e] at this
      exact this
    · rw [h1]
      have := lot_bits n h64
      unfold nv
      rw [← this]
def spLotsFrom (K : PySem.W.Frag) : Sp := fun vs H Q _ => ∃ (p : Addr) (ms : List Nat), vs = [.ref p] ∧ SqL K H p (nv ms) ∧ ms.length ≤ 64 ∧ (∀ m ∈ ms, m < 64) ∧ ∀ L : List (List Nat), L.Perm (ms.map lotF) → L.Pairwise lexLe → RetLots L H Q
theorem sc_lots_from : FnScope ["masks", "mask"] ["masks"] (defScope (top 23)) := ⟨rfl, rfl, rfl, by decide +kernel, rfl, by decide +kernel, by decide +kernel⟩
theorem c_lots_from (F : FnP K "lots_from" (top 23) f fd) (g : mg "lots_from" = some (.ref f)) (B : Bi mg) (c_lot_from : Cal P w K mg base 1 "lot_from" spLotFrom []) : Cal P w K mg base 2 "lots_from" (spLotsFrom K) [] := by
  refine mkCal F g sc_lots_from (fun _ _ _ _ _ _ us hl => match us, hl with | [_], _ => rfl) (fun vs H Q E h => ?_) (fun cdv A outer s H vs Q E hr h => ?_)
  · obtain ⟨p, ms, rfl, _⟩ := h
    rfl
  · obtain ⟨p, ms, rfl, hs, hz, hb, q⟩ := h
    refine ⟨_, (pss_one (ps_ret (pe_callB (cr_sortLots hr.units) (by rfl) B.sorted (by decide +kernel) (pa_cons (pe_lc (own := [("mask", 1)]) (g := gName 1) (by rfl) sc_lots_from.nd (pi_list (pv 0)) (blkOk_by (own := [("mask", 1)]) (N := ["masks", "mask"]) (sc := defScope (top 23)) (by decide +kernel)) (fun _ _ _ _ _ => (pg_name (i := 1) sc_lots_from.nd rfl (by first | exact Or.inl rfl | exact Or.inr rfl))) (fun _ _ _ _ _ => pts_nil) (fun _ _ _ _ _ => (pe_c c_lot_from hr (by decide) rfl (pa_cons (pv 1) pa_nil)))) pa_nil)))), ?_⟩
    refine el_sortLots (el_lots lotF (ev_v 0) hs (by omega) (fun _ => rfl) (fun n H1 e hn => eu_call (ea_cons (ev_v 1) ea_nil) (fun H2 e2 Q2 q2 E2 => ⟨n, rfl, hb n hn, q2⟩))) H (Ex.refl H) _ (fun M h1 h2 => q M h1 h2)
end
end W7
end
section
namespace W7
open PySem PySem.Spec PyProof.Rows L2 L3 Evl
open C8 (Cal pe_c Mak pe_mk Met pe_mt pe_mt0)
structure FC (K : PySem.W.Frag) (CF : Addr) : Prop where
  cls : Cls K CF
  a1 : NoAttr K CF "size"
  a2 : NoAttr K CF "lots"
  a3 : NoAttr K CF "_inside"
def FamAt (H : Hp) (CF : Addr) (a : Addr) (size : Nat) (fm : List Nat) : Prop := ∃ dx fs tl rs, H a = some (.ins CF dx fs) ∧ fs.lookup ("size" : Str) = some (.int (size : Nat)) ∧ fs.lookup ("lots" : Str) = some (.ref tl) ∧ fs.lookup ("depth" : Str) = none ∧ H tl = some (.tup rs) ∧ Lots H rs (fm.map lotF)
theorem FamAt.ex {H H' : Hp} {CF a : Addr} {size : Nat} {fm : List Nat} (h : FamAt H CF a size fm) (e : Ex H H') : FamAt H' CF a size fm := by
  obtain ⟨dx, fs, tl, rs, h1, h2, h3, h4, h5, h6⟩ := h
  exact ⟨dx, fs, tl, rs, e _ _ h1, h2, h3, h4, e _ _ h5, h6.ex e⟩
structure FamOk (size : Nat) (fm : List Nat) : Prop where
  s1 : 1 ≤ size
  s5 : size ≤ 5
  ne : fm ≠ []
  lt : ∀ m ∈ fm, m < 1 <<< size
  len : fm.length ≤ 64
theorem FamOk.lt64 {size : Nat} {fm : List Nat} (o : FamOk size fm) : ∀ m ∈ fm, m < 64 := fun m hm => Nat.lt_of_lt_of_le (o.lt m hm) (pow64 (by have := o.s5; omega))
theorem orF_lot : ∀ n : Nat, n < 64 → orF (lotF n) = n := by decide +kernel
theorem lotF_lt {n x : Nat} (h : x ∈ lotF n) : x < 12 := List.mem_range.mp (List.mem_filter.mp h).1
section
variable {K : PySem.W.Frag} {σ : L2.St} {H H' : Hp} {ta tb tc te tl : TE} {v : V} {t : TT}
theorem ev_fld {f : Str} {a C dx : Addr} {fs : List (Str × V)} (ha : Ev ta σ H (.ref a)) (h : H a = some (.ins C dx fs)) (c : Cls K C) (n : NoAttr K C f) (l : fs.lookup f = some v) : Ev (tFld K ta f) σ H v := fun H1 e Q q => ha H1 e _ fun H2 e2 => ⟨a, C, dx, fs, v, rfl, (e.trans e2) _ _ h, c, n, l, q H2 e2⟩
theorem ev_size {a CF : Addr} {size : Nat} {fm : List Nat} (h : FamAt H CF a size fm) (C : FC K CF) (ha : Ev ta σ H (.ref a)) : Ev (tFld K ta "size") σ H (.int (size : Nat)) := by
  obtain ⟨dx, fs, tl, rs, h1, h2, h3, h4, h5, h6⟩ := h
  exact ev_fld ha h1 C.cls C.a1 h2
theorem et_truth {n : Nat} (h : Ev te σ H (.int (n : Nat))) : EvT (fun σ H Q => te σ H fun x H' => ∃ k, TruV K x H' k ∧ Q k H') σ H (decide (n ≠ 0)) := fun H1 e Q q => h H1 e _ fun H2 e2 => ⟨_, rfl, by
  have e : (((n : Nat) : Int) != 0) = decide (n ≠ 0) := by
    by_cases h : n = 0
    · simp [h]
    · have : ((n : Nat) : Int) ≠ 0 := by omega
      simp only [bne_iff_ne, ne_eq, this, not_false_eq_true, h, decide_true]
  rw [e]
  exact q H2 e2⟩
theorem ret_callL0 {sp : Sp} {E : XK} {D : Ends} {xs : List V} (h : EvL tl σ H xs) (k : ∀ p H1, H p = none → Ex H H1 → H1 p = some (.lst xs) → sp [.ref p] H1 D.rt E) : tRet (tCall sp [] E (tCons tl tNil)) D σ H := h H (Ex.refl H) _ fun p H1 hp e h1 => k p H1 hp e h1
/-- [f(r) for r in t], t a tuple of lots -/
theorem el_lotsT {a : Addr} {rs : List V} {L : List (List Nat)} {j : Nat} {vs : List Nat} (G : List Nat → V) (h : Ev tl σ H (.ref a)) (hx : SqT K H a rs) (hL : Lots H rs L) (hz : L.length ≤ 40000) (hw : ∀ x, wipe ((wipe σ vs).set j (some x)) vs = wipe σ vs)
    (he : ∀ (r : V) (ns : List Nat) H1, Ex H H1 → TupV H1 r ns → ns ∈ L → Ev te ((wipe σ vs).set j (some r)) H1 (G ns)) :
    EvL (tLc (iTup K tl) (gName j) tYes te vs) σ H (L.map G) := fun H0 e Q q => h H0 e _ fun H1 e1 => ⟨a, rfl, ⟨rs, ex_t (e.trans e1) hx⟩, fun Dl hD =>
  lc_tup (xs := rs) (fun i H' => H1 Dl = none ∧ Ex H1 H' ∧ H' Dl = some (.lst ((L.take i).map G))) ⟨hD, Ex.new hD, upd_same⟩ (fun i H' _ p => ex_t ((e.trans e1).trans p.2.1) hx) (fun i x H' hi ⟨p1, p2, p3⟩ => ⟨hw x, by
    have hl : i < L.length := by rw [← hL.1]; exact (List.getElem?_eq_some_iff.mp hi).1
    have hn : L[i]? = some L[i] := List.getElem?_eq_some_iff.mpr ⟨hl, rfl⟩
    show te ((wipe σ vs).set j (some x)) H' _
    refine he x L[i] H1 (e.trans e1) ((hL.2 i x _ hi hn).ex (e.trans e1)) (List.getElem_mem hl) H' p2 _ fun H4 e4 => ⟨_, e4 _ _ p3, ?_, p1, Ex.mut (p2.trans e4) p1, ?_⟩
    · rw [List.length_map, List.length_take]; exact sz_lt (by omega)
    · rw [upd_same, List.take_add_one, hn, Option.toList_some, List.map_append]; rfl⟩) (fun H' ⟨p1, p2, p3⟩ => q Dl H' (fresh_back e1 p1) (e1.trans p2) (by rw [hL.1, List.take_length] at p3; exact p3))⟩
end
section
variable {P : Program} {w : World} {K : PySem.W.Frag} {mg : Str → Option Value} {base : Heap} {f : Addr} {fd : FuncData} {CF : Addr}
def cntF : Nat → List Nat
  | 0 => [0]
  | k + 1 => cntF k ++ (cntF k).map (· + 1)
theorem cnt_len : ∀ k, (cntF k).length = 1 <<< k
  | 0 => rfl
  | k + 1 => by rw [cntF, List.length_append, List.length_map, cnt_len k, Nat.one_shiftLeft, Nat.one_shiftLeft, Nat.pow_succ]; omega
theorem sums_len : ∀ (ns s : List Nat), (ns.foldl (fun s n => s ++ s.map (· + n)) s).length = s.length * 2 ^ ns.length
  | [], s => by simp
  | n :: ns, s => by
    rw [List.foldl_cons, sums_len ns, List.length_append, List.length_map, List.length_cons, Nat.pow_succ]
    have : s.length + s.length = s.length * 2 := by omega
    rw [this, Nat.mul_assoc, Nat.mul_comm 2]
def sumsF (ns : List Nat) : List Nat := ns.foldl (fun s n => s ++ s.map (· + n)) [0]
theorem sumsF_len (ns : List Nat) : (sumsF ns).length = 2 ^ ns.length := by
  unfold sumsF
  rw [sums_len]; simp
theorem sumsF_take {ns : List Nat} {i n : Nat} (h : ns[i]? = some n) : sumsF (ns.take (i + 1)) = sumsF (ns.take i) ++ (sumsF (ns.take i)).map (· + n) := by
  unfold sumsF
  rw [List.take_add_one, h, Option.toList_some, List.foldl_append]; rfl
theorem sums_cnt : ∀ k, sumsF (List.replicate k 1) = cntF k
  | 0 => rfl
  | k + 1 => by
    rw [List.replicate_succ', cntF, ← sums_cnt k]
    unfold sumsF
    rw [List.foldl_append]; rfl
def spSums (K : PySem.W.Frag) : Sp := fun vs H Q _ => ∃ (a : Addr) (ns : List Nat), vs = [.ref a] ∧ SqL K H a (nv ns) ∧ ns.length ≤ 6 ∧ RetL (nv (sumsF ns)) H Q
theorem sc_mask_sums : FnScope ["numbers", "sums", "number", "part"] ["numbers"] (defScope (top 25)) := ⟨rfl, rfl, rfl, by decide +kernel, rfl, by decide +kernel, by decide +kernel⟩
theorem c_mask_sums (F : FnP K "mask_sums" (top 25) f fd) (g : mg "mask_sums" = some (.ref f)) (B : Bi mg) : Cal P w K mg base 1 "mask_sums" (spSums K) [] := by
  refine mkCal F g sc_mask_sums (fun _ _ _ _ _ _ us hl => match us, hl with | [_], _ => rfl) (fun vs H Q E h => ?_) (fun cdv A outer s H vs Q E hr h => ?_)
  · obtain ⟨a, ns, rfl, _⟩ := h
    rfl
  · obtain ⟨a, ns, rfl, hs, h6, q⟩ := h
    have hp : ∀ i, i ≤ ns.length → (sumsF (ns.take i)).length ≤ 64 := fun i hi => by
      rw [sumsF_len, List.length_take, Nat.min_eq_left hi]
      exact Nat.le_trans (Nat.pow_le_pow_right (by decide) (Nat.le_trans hi h6)) (by decide)
    refine ⟨_, (pss_cons (ps_set (i := 1) sc_mask_sums.nd rfl (by first | exact Or.inl rfl | exact Or.inr rfl) (pe_lst (pa_cons (pe_nat 0 pe_int) pa_nil))) (pss_cons (ps_for PassesOwn.never rfl (pi_list (pv 0)) (pg_name (i := 2) sc_mask_sums.nd rfl (by first | exact Or.inl rfl | exact Or.inr rfl)) (pss_one (ps_set (i := 1) sc_mask_sums.nd rfl (by first | exact Or.inl rfl | exact Or.inr rfl) (pe_op op_cat (pv 1) (pe_lc (own := [("part", 3)]) (g := gName 3) (by rfl) sc_mask_sums.nd (pi_list (pv 1)) (blkOk_by (own := [("part", 3)]) (N := ["numbers", "sums", "number", "part"]) (sc := defScope (top 25)) (by decide +kernel)) (fun _ _ _ _ _ => (pg_name (i := 3) sc_mask_sums.nd rfl (by first | exact Or.inl rfl | exact Or.inr rfl))) (fun _ _ _ _ _ => pts_nil) (fun _ _ _ _ _ => (pe_op on_add (pv 3) (pv 2)))))))) (pss_one (ps_ret (pv 1))))), ?_⟩
    refine q_asgL (el_lst (ea_cons ev_c ea_nil) (by decide : 1 ≤ 100000)) fun c0 H1 hc0 e1 h1 => ?_
    refine q_forLN (K := K) (H0 := H) (ns := ns) (ev_v 0) hs e1 (fun i σ H' => Ex H H' ∧ ∃ c v2 v3, H c = none ∧ H' c = some (.lst (nv (sumsF (ns.take i)))) ∧ σ = [some (.ref a), some (.ref c), v2, v3]) (fun H2 e2 => ⟨e1.trans e2, c0, _, _, hc0, e2 _ _ h1, rfl⟩) (fun i σ H' p => p.1) ?_ ?_
    · rintro i n σ H' hn ⟨e0, c, v2, v3, hc, h2, rfl⟩
      have hi := (List.getElem?_eq_some_iff.mp hn).1
      have hp2 := hp i (by omega)
      refine ⟨.ref c, rfl, ?_⟩
      have el : EvL (tLc (iList K (tVar 1)) (gName 3) tYes (tOp (rN0 fun a b => .int ((a + b : Nat) : Int)) (tVar 3) (tVar 2)) [3]) [some (.ref a), some (.ref c), some (.int (n : Int)), v3] H' (nv ((sumsF (ns.take i)).map (· + n))) := by
        rw [nv_map]
        exact el_nats (fun _ => true) (fun m => .int ((m + n : Nat) : Int)) (ev_v 1) (sq_of h2) (by omega) (fun _ => rfl) (fun _ _ _ _ => et_yes) (fun m H1 e hm _ => ev_n (ev_v 3) (ev_v 2))
      refine el H' (Ex.refl _) _ fun d H3 hd e3 h3 => ⟨c, d, _, _, rfl, rfl, e3 _ _ h2, h3, ?_, fun r hr => ?_⟩
      · rw [nv_len, nv_len, List.length_map]; exact sz_of (by omega)
      · refine ⟨(e0.trans e3).trans (Ex.new hr), r, some (.int (n : Int)), v3, fresh_back (e0.trans e3) hr, ?_, rfl⟩
        rw [upd_same, sumsF_take hn]
        unfold nv
        rw [List.map_append]
    · rintro σ H' ⟨e0, c, v2, v3, hc, h2, rfl⟩
      rw [List.take_length] at h2
      exact s_ret (ev_v 1) fun H2 e2 => q c H2 hc (e0.trans e2) (e2 _ _ h2)
def spCounts : Sp := fun vs H Q _ => ∃ size : Nat, vs = [.int size] ∧ size ≤ 6 ∧ RetL (nv (cntF size)) H Q
theorem sc_thing_counts : FnScope ["size", "_"] ["size"] (defScope (top 26)) := ⟨rfl, rfl, rfl, by decide +kernel, rfl, by decide +kernel, by decide +kernel⟩
theorem c_thing_counts (F : FnP K "thing_counts" (top 26) f fd) (g : mg "thing_counts" = some (.ref f)) (B : Bi mg) (c_mask_sums : Cal P w K mg base 1 "mask_sums" (spSums K) []) : Cal P w K mg base 2 "thing_counts" spCounts [] := by
  refine mkCal F g sc_thing_counts (fun _ _ _ _ _ _ us hl => match us, hl with | [_], _ => rfl) (fun vs H Q E h => ?_) (fun cdv A outer s H vs Q E hr h => ?_)
  · obtain ⟨n, rfl, _⟩ := h
    rfl
  · obtain ⟨size, rfl, h6, q⟩ := h
    refine ⟨_, (pss_one (ps_ret (pe_c c_mask_sums hr (by decide) rfl (pa_cons (pe_lc (own := [("_", 1)]) (g := gName 1) (by rfl) sc_thing_counts.nd (pi_range1 rfl B.range (pa_cons (pv 0) pa_nil)) (blkOk_by (own := [("_", 1)]) (N := ["size", "_"]) (sc := defScope (top 26)) (by decide +kernel)) (fun _ _ _ _ _ => (pg_name (i := 1) sc_thing_counts.nd rfl (by first | exact Or.inl rfl | exact Or.inr rfl))) (fun _ _ _ _ _ => pts_nil) (fun _ _ _ _ _ => (pe_nat 1 pe_int))) pa_nil)))), ?_⟩
    have el : EvL (tLc (iRng1 (tCons (tVar 0) tNil)) (gName 1) tYes (tC (.int ((1 : Nat) : Int))) (List.map (fun x => x.snd) [(Str.ofString "_", 1)])) [some (.int size), none] H (nv (List.replicate size 1)) := by
      have e1 : nv (List.replicate size 1) = ((List.range size).filter fun _ => true).map fun _ => V.int ((1 : Nat) : Int) := by
        unfold nv
        rw [List.map_replicate, List.filter_eq_self.mpr (fun _ _ => rfl), List.map_const', List.length_range]
      rw [e1]
      exact el_rng (fun _ => true) (fun _ => .int ((1 : Nat) : Int)) (ea_cons (ev_v 0) ea_nil) (by omega) (fun _ => rfl) (fun _ _ _ _ => et_yes) (fun _ _ _ _ _ => ev_c)
    refine ret_callL0 el fun d H3 hd e3 h3 => ⟨d, List.replicate size 1, rfl, sq_of h3, by simp; omega, fun p H4 hp e4 h4 => ?_⟩
    rw [sums_cnt] at h4
    exact q p H4 (fresh_back e3 hp) (e3.trans e4) h4
def spFm (K : PySem.W.Frag) (CF : Addr) (xs : Nat → List Nat → List V) : Sp := fun vs H Q _ => ∃ (a : Addr) (size : Nat) (fm : List Nat), vs = [.ref a] ∧ FamAt H CF a size fm ∧ FamOk size fm ∧ RetL (xs size fm) H Q
theorem sc_family_masks : FnScope ["family", "lot"] ["family"] (defScope (top 27)) := ⟨rfl, rfl, rfl, by decide +kernel, rfl, by decide +kernel, by decide +kernel⟩
theorem c_family_masks (C : FC K CF) (F : FnP K "family_masks" (top 27) f fd) (g : mg "family_masks" = some (.ref f)) (B : Bi mg) (c_mask_of : Cal P w K mg base 1 "mask_of" spMaskOf []) : Cal P w K mg base 2 "family_masks" (spFm K CF fun _ fm => nv fm) [] := by
  refine mkCal F g sc_family_masks (fun _ _ _ _ _ _ us hl => match us, hl with | [_], _ => rfl) (fun vs H Q E h => ?_) (fun cdv A outer s H vs Q E hr h => ?_)
  · obtain ⟨a, size, fm, rfl, _⟩ := h
    rfl
  · obtain ⟨a, size, fm, rfl, hf, ok, q⟩ := h
    refine ⟨_, (pss_one (ps_ret (pe_lc (own := [("lot", 1)]) (g := gName 1) (by rfl) sc_family_masks.nd (pi_tup (pe_fld (pv 0) rfl)) (blkOk_by (own := [("lot", 1)]) (N := ["family", "lot"]) (sc := defScope (top 27)) (by decide +kernel)) (fun _ _ _ _ _ => (pg_name (i := 1) sc_family_masks.nd rfl (by first | exact Or.inl rfl | exact Or.inr rfl))) (fun _ _ _ _ _ => pts_nil) (fun _ _ _ _ _ => (pe_c c_mask_of hr (by decide) rfl (pa_cons (pv 1) pa_nil)))))), ?_⟩
    obtain ⟨dx, fs, tl, rs, h1, h2, h3, h4, h5, h6⟩ := hf
    refine s_retL (el_lotsT (fun ns => .int (orF ns : Nat)) (ev_fld (ev_v 0) h1 C.cls C.a2 h3) (st_of h5) h6 (by rw [List.length_map]; have := ok.len; omega) (fun _ => rfl) (fun r ns H1 e hr hns => ?_)) fun p H2 hp e2 hh => q p H2 hp e2 ?_
    · obtain ⟨b, rfl, hb⟩ := hr
      obtain ⟨m, hm, rfl⟩ := List.mem_map.mp hns
      exact ev_call (ea_cons (ev_v 1) ea_nil) (fun H2 e2 Q2 q2 E2 => ⟨b, lotF m, rfl, .inr (e2 _ _ hb), fun x hx => by have := lotF_lt hx; omega, q2⟩)
    · rw [hh]
      unfold nv
      rw [List.map_map]
      refine congrArg some (congrArg HO.lst (List.map_congr_left fun m hm => ?_))
      show V.int ((orF (lotF m) : Nat) : Int) = _
      rw [orF_lot m (ok.lt64 m hm)]
theorem sc_inside_row : FnScope ["family", "inside", "_", "mask"] ["family"] (defScope (top 28)) := ⟨rfl, rfl, rfl, by decide +kernel, rfl, by decide +kernel, by decide +kernel⟩
theorem c_inside_row (C : FC K CF) (F : FnP K "inside_row" (top 28) f fd) (g : mg "inside_row" = some (.ref f)) (B : Bi mg) (c_family_masks : Cal P w K mg base 2 "family_masks" (spFm K CF fun _ fm => nv fm) []) : Cal P w K mg base 3 "inside_row" (spFm K CF fun size fm => bv (insF size fm)) [] := by
  refine mkCal F g sc_inside_row (fun _ _ _ _ _ _ us hl => match us, hl with | [_], _ => rfl) (fun vs H Q E h => ?_) (fun cdv A outer s H vs Q E hr h => ?_)
  · obtain ⟨a, size, fm, rfl, _⟩ := h
    rfl
  · obtain ⟨a, size, fm, rfl, hf, ok, q⟩ := h
    have h64 := pow64 (n := size) (by have := ok.s5; omega)
    have hz := ok.s5
    refine ⟨_, (pss_cons (ps_setLc (i := 1) (own := [("_", 2)]) (g := gName 2) (by rfl) sc_inside_row.nd rfl rfl (sw_true rfl rfl rfl (by decide +kernel)) (pi_range1 rfl B.range (pa_cons (pe_op on_shl (pe_nat 1 pe_int) (pe_fld (pv 0) rfl)) pa_nil)) (blkOk_by (own := [("_", 2)]) (N := ["family", "inside", "_", "mask"]) (sc := defScope (top 28)) (by decide +kernel)) (fun _ _ _ _ _ => (pg_name (i := 2) sc_inside_row.nd rfl (by first | exact Or.inl rfl | exact Or.inr rfl))) (fun _ _ _ _ _ => pts_nil) (fun _ _ _ _ _ => pe_bl)) (pss_cons (ps_for PassesOwn.never rfl (pi_list (pe_c c_family_masks hr (by decide) rfl (pa_cons (pv 0) pa_nil))) (pg_name (i := 3) sc_inside_row.nd rfl (by first | exact Or.inl rfl | exact Or.inr rfl)) (pss_one (ps_asg pe_bl (pg_sub (pv 1) (pv 3) set_list)))) (pss_one (ps_ret (pv 1))))), ?_⟩
    refine q_asgL (el_rng (n := 1 <<< size) (fun _ => true) (fun _ => .bl false) (ea_cons (ev_nc ev_c (ev_size hf C (ev_v 0)) ⟨by decide, by omega⟩) ea_nil) (by omega) (fun _ => rfl) (fun _ _ _ _ => et_yes) (fun _ _ _ _ _ => ev_c)) fun r H1 hr1 e1 h1 => ?_
    refine ⟨.ref a, rfl, a, size, fm, rfl, hf.ex e1, ok, fun p H2 hp e2 hp2 => ⟨p, rfl, ⟨_, sq_of hp2⟩, ?_⟩⟩
    have e12 := e1.trans e2
    refine for_list (xs := nv fm) (fun i σ H' => Ex H H' ∧ H' p = some (.lst (nv fm)) ∧ H' r = some (.lst (bv ((List.range (1 <<< size)).map fun n => decide (n ∈ fm.take i)))) ∧ ∃ v v2, σ = [some (.ref a), some (.ref r), v, v2]) ⟨e12, hp2, ?_, _, _, rfl⟩ (fun i σ H' _ h => sq_of h.2.1) ?_ ?_
    · rw [e2 _ _ h1]
      unfold bv
      rw [List.map_map, List.filter_eq_self.mpr (fun _ _ => rfl)]
      refine congrArg some (congrArg HO.lst (List.map_congr_left fun a _ => ?_))
      simp
    · rintro i x σ H' hx ⟨e0, h0, h2, v, v2, rfl⟩
      obtain ⟨n, hn, rfl⟩ := nv_get hx
      have hn1 := ok.lt n (List.mem_of_getElem? hn)
      have hpr : p ≠ r := fun e => by rw [e, h1] at hp; cases hp
      show tAsg _ _ _ [some (.ref a), some (.ref r), v, some (.int n)] H'
      refine s_setL h2 ev_c (ev_v 1) (ev_v 3) (by rw [bv_len, List.length_map, List.length_range]; exact hn1) fun H3 e3 => ⟨Ex.mut (e0.trans e3) hr1, by rw [upd_ne hpr]; exact e3 _ _ h0, ?_, _, _, rfl⟩
      rw [upd_same]
      congr 2
      refine map_set hn1 fun k => ?_
      rw [List.take_add_one, hn]
      by_cases hk : k = n
      · simp [hk]
      · simp [hk]
    · rintro σ H' ⟨e0, h0, h2, v, v2, rfl⟩
      rw [nv_len, List.take_length] at h2
      refine s_ret (ev_v 1) fun H3 e3 => q r H3 hr1 (e0.trans e3) (e3 _ _ h2)
theorem cnt_bits : ∀ k : Nat, k < 7 → ∀ n : Nat, n < 1 <<< k → (cntF k)[n]? = some (bits n) := by decide +kernel
def spFmT (K : PySem.W.Frag) (CF : Addr) (xs : List Nat → Nat → List Nat) : Sp := fun vs H Q _ => ∃ (a : Addr) (size : Nat) (fm : List Nat) (t : Nat), vs = [.ref a, .int t] ∧ FamAt H CF a size fm ∧ FamOk size fm ∧ t < 1 <<< size ∧ RetL (nv (xs fm t)) H Q
theorem sc_nearest_masks : FnScope ["family", "target", "counts", "masks", "depth", "mask"] ["family", "target"] (defScope (top 32)) := ⟨rfl, rfl, rfl, by decide +kernel, rfl, by decide +kernel, by decide +kernel⟩
theorem c_nearest_masks (C : FC K CF) (F : FnP K "nearest_masks" (top 32) f fd) (g : mg "nearest_masks" = some (.ref f)) (B : Bi mg) (c_family_masks : Cal P w K mg base 2 "family_masks" (spFm K CF fun _ fm => nv fm) []) (c_thing_counts : Cal P w K mg base 2 "thing_counts" spCounts []) : Cal P w K mg base 3 "nearest_masks" (spFmT K CF nearF) [] := by
  refine mkCal F g sc_nearest_masks (fun _ _ _ _ _ _ us hl => match us, hl with | [_, _], _ => rfl) (fun vs H Q E h => ?_) (fun cdv A outer s H vs Q E hr h => ?_)
  · obtain ⟨a, size, fm, t, rfl, _⟩ := h
    rfl
  · obtain ⟨a, size, fm, t, rfl, hf, ok, ht, q⟩ := h
    have hz := ok.s5
    have hne2 : fm.map (fun n => bits (n ^^^ t)) ≠ [] := by simpa using ok.ne
    refine ⟨_, (pss_cons (ps_set (i := 2) sc_nearest_masks.nd rfl (by first | exact Or.inl rfl | exact Or.inr rfl) (pe_c c_thing_counts hr (by decide) rfl (pa_cons (pe_fld (pv 0) rfl) pa_nil))) (pss_cons (ps_set (i := 3) sc_nearest_masks.nd rfl (by first | exact Or.inl rfl | exact Or.inr rfl) (pe_c c_family_masks hr (by decide) rfl (pa_cons (pv 0) pa_nil))) (pss_cons (ps_set (i := 4) sc_nearest_masks.nd rfl (by first | exact Or.inl rfl | exact Or.inr rfl) (pe_callB (cr_min rfl) (by rfl) B.min (by decide +kernel) (pa_cons (pe_lc (own := [("mask", 5)]) (g := gName 5) (by rfl) sc_nearest_masks.nd (pi_list (pv 3)) (blkOk_by (own := [("mask", 5)]) (N := ["family", "target", "counts", "masks", "depth", "mask"]) (sc := defScope (top 32)) (by decide +kernel)) (fun _ _ _ _ _ => (pg_name (i := 5) sc_nearest_masks.nd rfl (by first | exact Or.inl rfl | exact Or.inr rfl))) (fun _ _ _ _ _ => pts_nil) (fun _ _ _ _ _ => (pe_ix (on_ix (K := K)) (pv 2) (pe_op on_xor (pv 5) (pv 1)) (fun _ _ => rfl)))) pa_nil))) (pss_one (ps_ret (pe_lc (own := [("mask", 5)]) (g := gName 5) (by rfl) sc_nearest_masks.nd (pi_list (pv 3)) (blkOk_by (own := [("mask", 5)]) (N := ["family", "target", "counts", "masks", "depth", "mask"]) (sc := defScope (top 32)) (by decide +kernel)) (fun _ _ _ _ _ => (pg_name (i := 5) sc_nearest_masks.nd rfl (by first | exact Or.inl rfl | exact Or.inr rfl))) (fun _ _ _ _ _ => (pts_one (pt_cmpR on_eq (pe_ix (on_ix (K := K)) (pv 2) (pe_op on_xor (pv 5) (pv 1)) (fun _ _ => rfl)) (pv 4) (nomark _)))) (fun _ _ _ _ _ => (pv 5)))))))), ?_⟩
    refine q_asgL (el_call (ea_cons (ev_size hf C (ev_v 0)) ea_nil) fun H2 e2 Q2 q2 E2 => ⟨size, rfl, by omega, q2⟩) fun c H1 hc e1 h1 => ?_
    refine q_asgL (el_call (ea_cons (ev_v 0) ea_nil) fun H2 e2 Q2 q2 E2 => ⟨a, size, fm, rfl, (hf.ex e1).ex e2, ok, q2⟩) fun p H2 hp e2 h2 => ?_
    have ix : ∀ {H3 : Hp} {σ : L2.St} {m : Nat}, Ex H2 H3 → m ∈ fm → σ[2]? = some (some (.ref c)) → σ[5]? = some (some (.int (m : Nat))) → σ[1]? = some (some (.int (t : Nat))) → Ev (tOp (rIxN K) (tVar 2) (tOp (rN0 fun a b => .int ((a ^^^ b : Nat) : Int)) (tVar 5) (tVar 1))) σ H3 (.int (bits (m ^^^ t) : Nat)) := fun e3 hm s2 s5 s1 => by
      refine ev_ix (i := _ ^^^ t) (sq_of (e3 _ _ (e2 _ _ h1))) (ev_var s2) (ev_n (ev_var s5) (ev_var s1)) ?_
      unfold nv
      rw [List.getElem?_map, cnt_bits size (by omega) _ (xor_lt_sh (ok.lt _ hm) ht)]
      rfl
    refine q_asg (ev_minN (ns := fm.map fun n => bits (n ^^^ t)) (by
      rw [nv_map]
      exact el_nats (fun _ => true) (fun m => .int ((bits (m ^^^ t) : Nat) : Int)) (ev_v 3) (sq_of h2) (by have := ok.len; omega) (fun _ => rfl) (fun _ _ _ _ => et_yes) (fun m H3 e3 hm _ => ix e3 hm rfl rfl rfl)) (mn_ok hne2).1 (mn_ok hne2).2) fun H3 e3 => ?_
    refine s_retL (el_nats (fun m => decide (bits (m ^^^ t) = mn (fm.map fun n => bits (n ^^^ t)))) (fun m => .int (m : Nat)) (ev_v 3) (sq_of (e3 _ _ h2)) (by have := ok.len; omega) (fun _ => rfl) (fun m H4 e4 hm => et_test (ev_n (ix (e3.trans e4) hm rfl rfl rfl) (ev_v 4))) (fun m H4 e4 hm _ => ev_v 5)) fun l H4 hl e4 h4 => q l H4 (fresh_back (e1.trans (e2.trans e3)) hl) ((e1.trans (e2.trans e3)).trans e4) h4
end
end W7
end
section
namespace W7
open PySem PySem.Spec PyProof.Rows L2 L3 Evl
open C8 (Cal pe_c Mak pe_mk Met pe_mt pe_mt0)
section
variable {K : PySem.W.Frag} {σ : L2.St} {H H' : Hp} {ta tb tc te tl : TE} {v z : V} {t : TT}
theorem ev_callU {sp : Sp} {E : XK} {xs : List V} (h : EvU te σ H xs) (hs : ∀ p H1, H1 p = some (.tup xs) → Ex H H1 → SpV sp [.ref p] H1 z) : Ev (tCall sp [] E (tCons te tNil)) σ H z := fun H1 e Q q =>
  h H1 e _ fun p H2 hp e2 h2 => hs p H2 h2 (e.trans e2) H2 (Ex.refl _) Q (fun H3 e3 => q H3 (e2.trans e3)) E
theorem ret_callL {sp : Sp} {E : XK} {D : Ends} {xs : List V} (h : EvL tl σ H xs) (k : ∀ p H1, H p = none → Ex H H1 → H1 p = some (.lst xs) → sp [.ref p] H1 D.rt E) : tRet (tCall sp [] E (tCons tl tNil)) D σ H := h H (Ex.refl H) _ fun p H1 hp e h1 => k p H1 hp e h1
theorem ev_callL {sp : Sp} {E : XK} {xs : List V} (h : EvL te σ H xs) (hs : ∀ p H1, H1 p = some (.lst xs) → Ex H H1 → SpV sp [.ref p] H1 z) : Ev (tCall sp [] E (tCons te tNil)) σ H z := fun H1 e Q q =>
  h H1 e _ fun p H2 hp e2 h2 => hs p H2 h2 (e.trans e2) H2 (Ex.refl _) Q (fun H3 e3 => q H3 (e2.trans e3)) E
end
theorem lot_lt {t size x : Nat} (h : t < 1 <<< size) (hx : x ∈ lotF t) : x < size := by
  have h1 := (List.mem_filter.mp hx).2
  refine Nat.lt_of_not_le fun hk => ?_
  rw [Nat.one_shiftLeft] at h
  have := Nat.testBit_lt_two_pow (Nat.lt_of_lt_of_le h (Nat.pow_le_pow_right (by decide) hk))
  rw [this] at h1; cases h1
theorem lot_asc (t : Nat) : (lotF t).Pairwise (· < ·) := List.Pairwise.filter _ List.pairwise_lt_range
theorem lot_ok {t size : Nat} (h : t < 1 <<< size) (hz : size ≤ 12) : LotOk size (lotF t) ∧ (lotF t).Pairwise (· ≤ ·) :=
  ⟨⟨(lot_asc t).imp fun h => by omega, fun n hn => lot_lt h hn, hz⟩, (lot_asc t).imp fun h => by omega⟩
def lowF (size : Nat) (fm : List Nat) (m : Nat) : Nat := orF ((List.range size).filter fun x => decide ((m ^^^ (1 <<< x)) ∈ fm))
def RowsOk (size : Nat) (fm : List Nat) : Prop := ∀ o, o < 1 <<< size → lowF size fm o ≠ 0 → o ∉ fm → ∀ m ∈ fm, (m ^^^ o) &&& lowF size fm o ≠ 0
def AllE (H : Hp) (kvs : List (Key × V)) : Prop := ∀ kv ∈ kvs, ∃ l, kv.2 = .ref l ∧ H l = some (.lst [])
theorem AllE.ex {H H' : Hp} {kvs : List (Key × V)} (h : AllE H kvs) (e : Ex H H') : AllE H' kvs := fun kv hk => (h kv hk).elim fun l z => ⟨l, z.1, e _ _ z.2⟩
theorem putK_mem {kvs : List (Key × V)} {k : Key} {v : V} {kv : Key × V} (h : kv ∈ putK kvs k v) : kv ∈ kvs ∨ kv.2 = v := by
  unfold putK at h
  by_cases c : (kvs.any fun kv => decide (kv.1 = k)) = true
  · rw [if_pos c] at h
    obtain ⟨x, hx, rfl⟩ := List.mem_map.mp h
    by_cases e : x.1 = k
    · rw [if_pos e]; exact .inr rfl
    · rw [if_neg e]; exact .inl hx
  · rw [if_neg c] at h
    obtain h | h := List.mem_append.mp h
    · exact .inl h
    · rw [List.mem_singleton.mp h]; exact .inr rfl
theorem putK_len {kvs : List (Key × V)} {k : Key} {v : V} : (putK kvs k v).length ≤ kvs.length + 1 := by
  unfold putK
  split <;> simp
theorem valV_mem {kvs : List (Key × V)} {k : Key} {v : V} (h : valV kvs k = some v) : ∃ kv ∈ kvs, kv.2 = v := by
  unfold valV at h
  cases e : kvs.find? (fun kv => decide (kv.1 = k)) with
  | none => exact absurd (e ▸ h) (by simp)
  | some kv => rw [e] at h; cases h; exact ⟨kv, List.mem_of_find?_eq_some e, rfl⟩
section
variable {P : Program} {w : World} {K : PySem.W.Frag} {mg : Str → Option Value} {base : Heap} {f : Addr} {fd : FuncData} {CF : Addr}
def spNearest (CF : Addr) : Sp := fun vs H Q _ => ∃ (a p : Addr) (size : Nat) (fm : List Nat) (t : Nat), vs = [.ref a, .ref p] ∧ FamAt H CF a size fm ∧ FamOk size fm ∧ t < 1 <<< size ∧ LotA H p (lotF t) ∧ ∀ L : List (List Nat), L.Perm ((nearF fm t).map lotF) → L.Pairwise lexLe → RetLots L H Q
theorem near_len {fm : List Nat} {t : Nat} : (nearF fm t).length ≤ fm.length := List.length_filter_le _ _
def spLow : Sp := fun vs H Q _ => ∃ (size : Nat) (p : Addr) (fm : List Nat) (m : Nat), vs = [.int size, .ref p, .int m] ∧ size ≤ 5 ∧ H p = some (.lst (bv (insF size fm))) ∧ m < 1 <<< size ∧ RetV (.int (lowF size fm m : Nat)) H Q
theorem sc_lowering_mask : FnScope ["size", "inside", "mask", "thing"] ["size", "inside", "mask"] (defScope (top 35)) := ⟨rfl, rfl, rfl, by decide +kernel, rfl, by decide +kernel, by decide +kernel⟩
theorem c_lowering_mask (F : FnP K "lowering_mask" (top 35) f fd) (g : mg "lowering_mask" = some (.ref f)) (B : Bi mg) (c_mask_of : Cal P w K mg base 1 "mask_of" spMaskOf []) : Cal P w K mg base 2 "lowering_mask" spLow [] := by
  refine mkCal F g sc_lowering_mask (fun _ _ _ _ _ _ us hl => match us, hl with | [_, _, _], _ => rfl) (fun vs H Q E h => ?_) (fun cdv A outer s H vs Q E hr h => ?_)
  · obtain ⟨size, p, fm, m, rfl, _⟩ := h
    rfl
  · obtain ⟨size, p, fm, m, rfl, hz, hp, hm, q⟩ := h
    refine ⟨_, (pss_one (ps_ret (pe_c c_mask_of hr (by decide) rfl (pa_cons (pe_lc (own := [("thing", 3)]) (g := gName 3) (by rfl) sc_lowering_mask.nd (pi_range1 rfl B.range (pa_cons (pv 0) pa_nil)) (blkOk_by (own := [("thing", 3)]) (N := ["size", "inside", "mask", "thing"]) (sc := defScope (top 35)) (by decide +kernel)) (fun _ _ _ _ _ => (pg_name (i := 3) sc_lowering_mask.nd rfl (by first | exact Or.inl rfl | exact Or.inr rfl))) (fun _ _ _ _ _ => (pts_one (pt_val (pe_ix (on_ix (K := K)) (pv 1) (pe_op on_xor (pv 2) (pe_op on_shl (pe_nat 1 pe_int) (pv 3))) (fun _ _ => rfl))))) (fun _ _ _ _ _ => (pv 3))) pa_nil)))), ?_⟩
    refine s_ret (ev_callL (el_rng (n := size) (fun x => decide ((m ^^^ (1 <<< x)) ∈ fm)) (fun x => .int (x : Nat)) (ea_cons (ev_v 0) ea_nil) (by omega) (fun _ => rfl) (fun x H1 e hx => et_B (ev_ix (sq_of (e _ _ hp)) (ev_v 1) (ev_n (ev_v 2) (ev_nc ev_c (ev_v 3) ⟨by decide, by omega⟩)) (insF_get (xor_lt_sh hm (one_lt_sh hx))))) (fun x H1 e hx _ => ev_v 3)) fun r H1 h1 e1 H2 e2 Q2 q2 E2 => ?_) q
    exact ⟨r, _, rfl, .inl (e2 _ _ h1), fun x hx => by have := List.mem_range.mp (List.mem_filter.mp hx).1; omega, q2⟩
def spUngated (CF : Addr) : Sp := fun vs H Q _ => ∃ (a : Addr) (size : Nat) (fm : List Nat), vs = [.ref a] ∧ FamAt H CF a size fm ∧ FamOk size fm ∧ RowsOk size fm ∧ ∀ d H' kvs, H d = none → Ex H H' → H' d = some (.dK kvs) → AllE H' kvs → Q (.ref d) H'
theorem sc_ungated_rows : FnScope ["family", "masks", "inside", "rows", "outer", "lowering", "mask"] ["family"] (defScope (top 36)) := ⟨rfl, rfl, rfl, by decide +kernel, rfl, by decide +kernel, by decide +kernel⟩
theorem c_ungated_rows (C : FC K CF) (F : FnP K "ungated_rows" (top 36) f fd) (g : mg "ungated_rows" = some (.ref f)) (B : Bi mg) (c_family_masks : Cal P w K mg base 2 "family_masks" (spFm K CF fun _ fm => nv fm) []) (c_inside_row : Cal P w K mg base 3 "inside_row" (spFm K CF fun size fm => bv (insF size fm)) []) (c_lowering_mask : Cal P w K mg base 2 "lowering_mask" spLow []) : Cal P w K mg base 4 "ungated_rows" (spUngated CF) [] := by
  refine mkCal F g sc_ungated_rows (fun _ _ _ _ _ _ us hl => match us, hl with | [_], _ => rfl) (fun vs H Q E h => ?_) (fun cdv A outer s H vs Q E hr h => ?_)
  · obtain ⟨a, size, fm, rfl, _⟩ := h
    rfl
  · obtain ⟨a, size, fm, rfl, hf, ok, hro, q⟩ := h
    have hz := ok.s5
    have h64 := pow64 (n := size) (by omega)
    refine ⟨_, (pss_cons (ps_set (i := 1) sc_ungated_rows.nd rfl (by first | exact Or.inl rfl | exact Or.inr rfl) (pe_c c_family_masks hr (by decide) rfl (pa_cons (pv 0) pa_nil))) (pss_cons (ps_set (i := 2) sc_ungated_rows.nd rfl (by first | exact Or.inl rfl | exact Or.inr rfl) (pe_c c_inside_row hr (by decide) rfl (pa_cons (pv 0) pa_nil))) (pss_cons (ps_set (i := 3) sc_ungated_rows.nd rfl (by first | exact Or.inl rfl | exact Or.inr rfl) pe_dnewK) (pss_cons (ps_for PassesOwn.never rfl (pi_range1 rfl B.range (pa_cons (pe_callB call_len_seq (by rfl) B.len (by decide +kernel) (pa_cons (pv 2) pa_nil)) pa_nil)) (pg_name (i := 4) sc_ungated_rows.nd rfl (by first | exact Or.inl rfl | exact Or.inr rfl)) (pss_cons (ps_set (i := 5) sc_ungated_rows.nd rfl (by first | exact Or.inl rfl | exact Or.inr rfl) (pe_c c_lowering_mask hr (by decide) rfl (pa_cons (pe_fld (pv 0) rfl) (pa_cons (pv 2) (pa_cons (pv 4) pa_nil))))) (pss_one (ps_if (PW.pt (pw_and (pt_truthK (K := K) rfl (pv 5) (fun _ => rfl)) (pw_and1 (pt_not (pt_val (pe_ix (on_ix (K := K)) (pv 2) (pv 4) (fun _ _ => rfl))))))) (pss_one (ps_dput (hu_of hr) (pv 3) (pv 4) (pe_lc (own := [("mask", 6)]) (g := gName 6) (by rfl) sc_ungated_rows.nd (pi_list (pv 1)) (blkOk_by (own := [("mask", 6)]) (N := ["family", "masks", "inside", "rows", "outer", "lowering", "mask"]) (sc := defScope (top 36)) (by decide +kernel)) (fun _ _ _ _ _ => (pg_name (i := 6) sc_ungated_rows.nd rfl (by first | exact Or.inl rfl | exact Or.inr rfl))) (fun _ _ _ _ _ => (pts_one (pt_not (pt_truthK (K := K) rfl (pe_op on_and (pe_op on_xor (pv 6) (pv 4)) (pv 5)) (fun _ => rfl))))) (fun _ _ _ _ _ => (pv 6))) rfl)) pss_nil)))) (pss_one (ps_ret (pv 3))))))), ?_⟩
    refine q_asgL (el_call (ea_cons (ev_v 0) ea_nil) fun H2 e2 Q2 q2 E2 => ⟨a, size, fm, rfl, hf.ex e2, ok, q2⟩) fun p H1 hp1 e1 h1 => ?_
    refine q_asgL (el_call (ea_cons (ev_v 0) ea_nil) fun H2 e2 Q2 q2 E2 => ⟨a, size, fm, rfl, (hf.ex e1).ex e2, ok, q2⟩) fun r H2 hr2 e2 h2 => ?_
    intro d hd
    have hdH : H d = none := fresh_back (e1.trans e2) hd
    have hil : (bv (insF size fm)).length = 1 <<< size := by rw [bv_len]; unfold insF; simp
    have ed := Ex.new (o := .dK []) hd
    have s0 := hf.ex (e1.trans e2)
    refine q_forR1 (n := ((1 <<< size : Nat) : Int)) (ea_cons (ev_is (ev_len (ev_v 2) (sq_of (ed _ _ h2))) (by rw [hil])) ea_nil) (by omega) (fun i σ H' => Ex H2 H' ∧ ∃ kvs v4 v5 v6, H' d = some (.dK kvs) ∧ kvs.length ≤ i ∧ AllE H' kvs ∧ σ = [some (.ref a), some (.ref p), some (.ref r), some (.ref d), v4, v5, v6]) (fun H3 e3 => ⟨ed.trans e3, [], _, _, _, e3 _ _ upd_same, by simp, (fun kv hk => by cases hk), rfl⟩) ?_ ?_
    · rintro i σ H' hi ⟨e3, kvs, v4, v5, v6, h3, hk, hE, rfl⟩
      have his : i < 1 <<< size := by omega
      refine q_asg (ev_call (ea_cons (ev_size (s0.ex e3) C (ev_v 0)) (ea_cons (ev_v 2) (ea_cons (ev_v 4) ea_nil))) fun H4 e4 Q4 q4 E4 => ⟨size, r, fm, i, rfl, hz, e4 _ _ (e3 _ _ h2), his, q4⟩) fun H4 e4 => ?_
      refine s_when (b := decide (lowF size fm i ≠ 0) && !decide (i ∈ fm)) (et_and (et_truth (ev_v 5)) fun _ => et_not (et_B (ev_ix (sq_of (e4 _ _ (e3 _ _ h2))) (ev_v 2) (ev_v 4) (insF_get his)))) (fun hb H5 e5 => ?_) (fun hb H5 e5 => ⟨e3.trans (e4.trans e5), kvs, _, _, _, e5 _ _ (e4 _ _ h3), by omega, hE.ex (e4.trans e5), rfl⟩)
      have hb1 : lowF size fm i ≠ 0 := of_decide_eq_true (Bool.and_eq_true_iff.mp hb).1
      have hb2 : i ∉ fm := by
        have := (Bool.and_eq_true_iff.mp hb).2
        simpa using this
      have el := el_nats (K := K) (te := tVar 6) (t := tNot (fun σ H Q => tOp (rN0 fun a b => .int ((a &&& b : Nat) : Int)) (tOp (rN0 fun a b => .int ((a ^^^ b : Nat) : Int)) (tVar 6) (tVar 4)) (tVar 5) σ H fun x H' => ∃ k, TruV K x H' k ∧ Q k H')) (tl := tVar 1) (j := 6) (vs := [6]) (σ := [some (.ref a), some (.ref p), some (.ref r), some (.ref d), some (.int (i : Int)), some (.int (lowF size fm i : Nat)), v6]) (H := H5) (fun m => !decide (((m ^^^ i) &&& lowF size fm i) ≠ 0)) (fun m => .int (m : Nat)) (ev_v 1) (sq_of (e5 _ _ (e4 _ _ (e3 _ _ (e2 _ _ h1))))) (by have := ok.len; omega) (fun _ => rfl) (fun m H6 e6 hm => et_not (et_truth (ev_n (ev_n (ev_v 6) (ev_v 4)) (ev_v 5)))) (fun m H6 e6 hm _ => ev_v 6)
      have hnil : (fm.filter fun m => !decide (((m ^^^ i) &&& lowF size fm i) ≠ 0)) = [] := by
        rw [List.filter_eq_nil_iff]
        intro m hm
        simp [hro i his hb1 hb2 m hm]
      rw [hnil] at el
      refine el H5 (Ex.refl _) _ fun l H6 hl e6 h6 => ⟨.ref d, rfl, .int (i : Int), rfl, d, _, rfl, .inl ⟨kvs, .inl (i : Int), e6 _ _ (e5 _ _ (e4 _ _ h3)), rfl, sz_lt (by omega), rfl⟩, ?_⟩
      have hd2 : H2 d = none := hd
      refine ⟨Ex.mut (e3.trans (e4.trans (e5.trans e6))) hd2, _, _, _, _, upd_same, Nat.le_trans putK_len (by omega), fun kv hkv => ?_, rfl⟩
      rcases putK_mem hkv with h | h
      · obtain ⟨l2, z1, z2⟩ := (hE.ex (e4.trans (e5.trans e6))) kv h
        refine ⟨l2, z1, ?_⟩
        rw [upd_ne (fun e => by rw [e, e6 _ _ (e5 _ _ (e4 _ _ h3))] at z2; cases z2)]
        exact z2
      · refine ⟨l, h, ?_⟩
        rw [upd_ne (fun e => by rw [e, e6 _ _ (e5 _ _ (e4 _ _ h3))] at h6; cases h6)]
        exact h6
    · rintro σ H' ⟨e3, kvs, v4, v5, v6, h3, hk, hE, rfl⟩
      exact s_ret (ev_v 3) fun H4 e4 => q d H4 kvs hdH ((e1.trans e2).trans (e3.trans e4)) (e4 _ _ h3) (hE.ex e4)
def spFirst (CF : Addr) : Sp := fun vs H Q _ => ∃ (a d : Addr) (size : Nat) (fm : List Nat) (kvs : List (Key × V)), vs = [.ref a, .ref d] ∧ FamAt H CF a size fm ∧ FamOk size fm ∧ H d = some (.dK kvs) ∧ AllE H kvs ∧ RetV .non H Q
theorem sc_first_break : FnScope ["family", "rows", "inner", "found", "thing", "outer", "other"] ["family", "rows"] (defScope (top 37)) := ⟨rfl, rfl, rfl, by decide +kernel, rfl, by decide +kernel, by decide +kernel⟩
theorem c_first_break (C : FC K CF) (F : FnP K "first_break" (top 37) f fd) (g : mg "first_break" = some (.ref f)) (B : Bi mg) (c_mask_of : Cal P w K mg base 1 "mask_of" spMaskOf []) (c_lot_from : Cal P w K mg base 1 "lot_from" spLotFrom []) : Cal P w K mg base 2 "first_break" (spFirst CF) [] := by
  refine mkCal F g sc_first_break (fun _ _ _ _ _ _ us hl => match us, hl with | [_, _], _ => rfl) (fun vs H Q E h => ?_) (fun cdv A outer s H vs Q E hr h => ?_)
  · obtain ⟨a, d, size, fm, kvs, rfl, _⟩ := h
    rfl
  · obtain ⟨a, d, size, fm, kvs, rfl, hf, ok, hd, hE, q⟩ := h
    have hz := ok.s5
    refine ⟨_, (pss_cons (ps_for PassesOwn.never rfl (pi_tup (pe_fld (pv 0) rfl)) (pg_name (i := 2) sc_first_break.nd rfl (by first | exact Or.inl rfl | exact Or.inr rfl)) (pss_cons (ps_set (i := 3) sc_first_break.nd rfl (by first | exact Or.inl rfl | exact Or.inr rfl) (pe_lst pa_nil)) (pss_cons (ps_for PassesOwn.never rfl (pi_range1 rfl B.range (pa_cons (pe_fld (pv 0) rfl) pa_nil)) (pg_name (i := 4) sc_first_break.nd rfl (by first | exact Or.inl rfl | exact Or.inr rfl)) (pss_cons (ps_set (i := 5) sc_first_break.nd rfl (by first | exact Or.inl rfl | exact Or.inr rfl) (pe_op on_xor (pe_c c_mask_of hr (by decide) rfl (pa_cons (pv 2) pa_nil)) (pe_op on_shl (pe_nat 1 pe_int) (pv 4)))) (pss_one (ps_if (pt_truthK (K := K) rfl (pe_dget1 (hu_of hr) (pv 1) (pv 5) (by constructor <;> rfl)) (fun _ => rfl)) (pss_one (ps_expr (pe_bm PySem.F.plainAttrs_list PySem.F.slot_list_append PySem.F.type_list_append mt_append (pv 3) (pa_cons (pe_tup (pa_cons (pe_c c_lot_from hr (by decide) rfl (pa_cons (pe_ix (on_ix (K := K)) (pe_dget (hu_of hr) (pv 1) (pv 5) (fun _ _ => rfl)) (pe_nat 0 pe_int) (fun _ _ => rfl)) pa_nil)) (pa_cons (pv 4) pa_nil))) pa_nil)))) pss_nil)))) (pss_one (ps_if (pt_truthK (K := K) rfl (pv 3) (fun _ => rfl)) (pss_cons (ps_asg (pe_callB (cr_min rfl) (by rfl) B.min (by decide +kernel) (pa_cons (pv 3) pa_nil)) (pg_tup rfl (pgs_cons (pg_name (i := 6) sc_first_break.nd rfl (by first | exact Or.inl rfl | exact Or.inr rfl)) (pgs_cons (pg_name (i := 4) sc_first_break.nd rfl (by first | exact Or.inl rfl | exact Or.inr rfl)) pgs_nil)))) (pss_one (ps_ret (pe_tup (pa_cons (pv 2) (pa_cons (pv 6) (pa_cons (pv 4) pa_nil))))))) pss_nil))))) (pss_one (ps_ret pe_non))), ?_⟩
    obtain ⟨dx, fs, tl, rs, h1, h2, h3, h4, h5, h6⟩ := id hf
    refine q_forT (xs := rs) (ev_fld (ev_v 0) h1 C.cls C.a2 h3) (st_of h5) (fun i σ H' => Ex H H' ∧ ∃ v2 v3 v4 v5 v6, σ = [some (.ref a), some (.ref d), v2, v3, v4, v5, v6]) (fun H2 e2 => ⟨e2, _, _, _, _, _, rfl⟩) (fun i σ H' _ h => st_of (h.1 _ _ h5)) ?_ ?_
    · rintro i x σ H' hx ⟨e0, v2, v3, v4, v5, v6, rfl⟩
      have hl : i < (fm.map lotF).length := by rw [← h6.1]; exact (List.getElem?_eq_some_iff.mp hx).1
      have hn : (fm.map lotF)[i]? = some (fm.map lotF)[i] := List.getElem?_eq_some_iff.mpr ⟨hl, rfl⟩
      obtain ⟨b, rfl, hb⟩ := (h6.2 i x _ hx hn).ex e0
      generalize (fm.map lotF)[i] = ns at hn hb
      obtain ⟨m, hm, rfl⟩ : ∃ m ∈ fm, lotF m = ns := List.mem_map.mp (List.mem_of_getElem? hn)
      show tSeq _ _ _ [some (.ref a), some (.ref d), some (.ref b), v3, v4, v5, v6] H'
      refine q_asgL (el_lst ea_nil (by decide)) fun l H2 hl2 e2 hl3 => ?_
      have hf2 := hf.ex (e0.trans e2)
      refine q_forR1 (n := (size : Int)) (ea_cons (ev_size hf2 C (ev_v 0)) ea_nil) (by omega) (fun k σ H' => Ex H2 H' ∧ ∃ v4 v5, σ = [some (.ref a), some (.ref d), some (.ref b), some (.ref l), v4, v5, v6]) (fun H3 e3 => ⟨e3, _, _, rfl⟩) ?_ ?_
      · rintro k σ H3 hk ⟨e3, v4, v5, rfl⟩
        refine q_asg (ev_n (ev_call (ea_cons (ev_v 2) ea_nil) fun H4 e4 Q4 q4 E4 => ⟨b, lotF m, rfl, .inr (e4 _ _ (e3 _ _ (e2 _ _ hb))), fun x hx => by have := lotF_lt hx; omega, q4⟩) (ev_nc ev_c (ev_v 4) ⟨by decide, by omega⟩)) fun H4 e4 => ?_
        have e04 := (e0.trans e2).trans (e3.trans e4)
        refine ⟨.ref d, rfl, d, rfl, (.inl ⟨_, .inl (e04 _ _ hd)⟩), _, rfl, _, DGet.k (k := .inl _) (e04 _ _ hd), ?_⟩
        have tr : TruV K ((valV kvs (.inl ((orF (lotF m) ^^^ (1 <<< k) : Nat) : Int))).getD .non) H4 false := by
          cases ev : valV kvs (.inl ((orF (lotF m) ^^^ (1 <<< k) : Nat) : Int)) with
          | none => rfl
          | some v =>
            obtain ⟨kv, hkv, rfl⟩ := valV_mem ev
            obtain ⟨l5, z1, z2⟩ := (hE.ex e04) kv hkv
            show TruV K kv.2 H4 false
            rw [z1]
            exact .inl ⟨[], sq_of z2, rfl⟩
        exact ⟨false, tr, e3.trans e4, _, _, rfl⟩
      · rintro σ H3 ⟨e3, v4, v5, rfl⟩
        exact ⟨.ref l, rfl, false, .inl ⟨[], sq_of (e3 _ _ hl3), rfl⟩, (e0.trans e2).trans e3, _, _, _, _, _, rfl⟩
    · rintro σ H' ⟨e0, v2, v3, v4, v5, v6, rfl⟩
      exact s_ret ev_c fun H2 e2 => q H2 (e0.trans e2)
def spGate (CF : Addr) : Sp := fun vs H Q _ => ∃ (a : Addr) (size : Nat) (fm : List Nat), vs = [.ref a] ∧ FamAt H CF a size fm ∧ FamOk size fm ∧ RowsOk size fm ∧ RetV .non H Q
theorem sc_find_break : FnScope ["family"] ["family"] (defScope (top 38)) := ⟨rfl, rfl, rfl, by decide +kernel, rfl, by decide +kernel, by decide +kernel⟩
theorem c_find_break (C : FC K CF) (F : FnP K "find_break" (top 38) f fd) (g : mg "find_break" = some (.ref f)) (B : Bi mg) (c_ungated_rows : Cal P w K mg base 4 "ungated_rows" (spUngated CF) []) (c_first_break : Cal P w K mg base 2 "first_break" (spFirst CF) []) : Cal P w K mg base 5 "find_break" (spGate CF) [] := by
  refine mkCal F g sc_find_break (fun _ _ _ _ _ _ us hl => match us, hl with | [_], _ => rfl) (fun vs H Q E h => ?_) (fun cdv A outer s H vs Q E hr h => ?_)
  · obtain ⟨a, size, fm, rfl, _⟩ := h
    rfl
  · obtain ⟨a, size, fm, rfl, hf, ok, hro, q⟩ := h
    refine ⟨_, (pss_one (ps_ret (pe_c c_first_break hr (by decide) rfl (pa_cons (pv 0) (pa_cons (pe_c c_ungated_rows hr (by decide) rfl (pa_cons (pv 0) pa_nil)) pa_nil))))), ?_⟩
    exact ⟨.ref a, rfl, .ref a, rfl, a, size, fm, rfl, hf, ok, hro, fun d H1 kvs hd e1 h1 hE => ⟨a, d, size, fm, kvs, rfl, hf.ex e1, ok, h1, hE, fun H2 e2 => q H2 (e1.trans e2)⟩⟩
theorem sc_needs_gated : FnScope ["family", "found", "inner", "other", "thing"] ["family"] (defScope (top 39)) := ⟨rfl, rfl, rfl, by decide +kernel, rfl, by decide +kernel, by decide +kernel⟩
theorem c_needs_gated (C : FC K CF) (F : FnP K "needs_gated" (top 39) f fd) (g : mg "needs_gated" = some (.ref f)) (B : Bi mg) (c_find_break : Cal P w K mg base 5 "find_break" (spGate CF) []) : Cal P w K mg base 6 "needs_gated" (spGate CF) [] := by
  refine mkCal F g sc_needs_gated (fun _ _ _ _ _ _ us hl => match us, hl with | [_], _ => rfl) (fun vs H Q E h => ?_) (fun cdv A outer s H vs Q E hr h => ?_)
  · obtain ⟨a, size, fm, rfl, _⟩ := h
    rfl
  · obtain ⟨a, size, fm, rfl, hf, ok, hro, q⟩ := h
    refine ⟨_, (pss_cons (ps_set (i := 1) sc_needs_gated.nd rfl (by first | exact Or.inl rfl | exact Or.inr rfl) (pe_c c_find_break hr (by decide) rfl (pa_cons (pv 0) pa_nil))) (pss_one (ps_if (pt_cmp (pc_notN (pv 1))) (pss_cons (ps_asg (pv 1) (pg_tup rfl (pgs_cons (pg_name (i := 2) sc_needs_gated.nd rfl (by first | exact Or.inl rfl | exact Or.inr rfl)) (pgs_cons (pg_name (i := 3) sc_needs_gated.nd rfl (by first | exact Or.inl rfl | exact Or.inr rfl)) (pgs_cons (pg_name (i := 4) sc_needs_gated.nd rfl (by first | exact Or.inl rfl | exact Or.inr rfl)) pgs_nil))))) (pss_one ps_never)) pss_nil))), ?_⟩
    refine q_asg (v := .non) (ev_call (ea_cons (ev_v 0) ea_nil) fun H2 e2 Q2 q2 E2 => ⟨a, size, fm, rfl, hf.ex e2, ok, hro, q2⟩) fun H1 e1 => ?_
    exact ⟨.non, rfl, false, rfl, q H1 e1⟩
def spBasesAt (CF : Addr) : Sp := fun vs H Q _ => ∃ (a p : Addr) (size : Nat) (fm : List Nat) (t : Nat), vs = [.ref a, .ref p] ∧ FamAt H CF a size fm ∧ FamOk size fm ∧ t < 1 <<< size ∧ LotA H p (lotF t) ∧ ∀ L : List (List Nat), L.Perm ((basesF fm t).map lotF) → L.Pairwise lexLe → RetLots L H Q
theorem sc_bases_at : FnScope ["family", "lot", "mask", "near"] ["family", "lot"] (defScope (top 44)) := ⟨rfl, rfl, rfl, by decide +kernel, rfl, by decide +kernel, by decide +kernel⟩
theorem c_bases_at (C : FC K CF) (F : FnP K "bases_at" (top 44) f fd) (g : mg "bases_at" = some (.ref f)) (B : Bi mg) (c_mask_of : Cal P w K mg base 1 "mask_of" spMaskOf []) (c_nearest_masks : Cal P w K mg base 3 "nearest_masks" (spFmT K CF nearF) []) (c_lots_from : Cal P w K mg base 2 "lots_from" (spLotsFrom K) []) : Cal P w K mg base 4 "bases_at" (spBasesAt CF) [] := by
  refine mkCal F g sc_bases_at (fun _ _ _ _ _ _ us hl => match us, hl with | [_, _], _ => rfl) (fun vs H Q E h => ?_) (fun cdv A outer s H vs Q E hr h => ?_)
  · obtain ⟨a, p, size, fm, t, rfl, _⟩ := h
    rfl
  · obtain ⟨a, p, size, fm, t, rfl, hf, ok, ht, hp, q⟩ := h
    have hz := ok.s5
    have h64 := pow64 (n := size) (by omega)
    refine ⟨_, (pss_cons (ps_set (i := 2) sc_bases_at.nd rfl (by first | exact Or.inl rfl | exact Or.inr rfl) (pe_c c_mask_of hr (by decide) rfl (pa_cons (pv 1) pa_nil))) (pss_one (ps_ret (pe_c c_lots_from hr (by decide) rfl (pa_cons (pe_lc (own := [("near", 3)]) (g := gName 3) (by rfl) sc_bases_at.nd (pi_list (pe_c c_nearest_masks hr (by decide) rfl (pa_cons (pv 0) (pa_cons (pv 2) pa_nil)))) (blkOk_by (own := [("near", 3)]) (N := ["family", "lot", "mask", "near"]) (sc := defScope (top 44)) (by decide +kernel)) (fun _ _ _ _ _ => (pg_name (i := 3) sc_bases_at.nd rfl (by first | exact Or.inl rfl | exact Or.inr rfl))) (fun _ _ _ _ _ => pts_nil) (fun _ _ _ _ _ => (pe_op on_xor (pv 3) (pv 2)))) pa_nil))))), ?_⟩
    refine q_asg (ev_call (ea_cons (ev_v 1) ea_nil) fun H2 e2 Q2 q2 E2 => ⟨p, lotF t, rfl, hp.ex e2, fun x hx => by have := lotF_lt hx; omega, q2⟩) fun H1 e1 => ?_
    rw [orF_lot t (by omega)]
    have em := el_natsN (K := K) (te := tOp (rN0 fun a b => .int ((a ^^^ b : Nat) : Int)) (tVar 3) (tVar 2)) (t := tYes) (tl := tCall (spFmT K CF nearF) [] E0 (tCons (tVar 0) (tCons (tVar 2) tNil))) (j := 3) (vs := [3]) (σ := [some (.ref a), some (.ref p), some (.int (t : Nat)), none]) (H := H1) (fun _ => true) (fun m => .int ((m ^^^ t : Nat) : Int)) (el_call (xs := nv (nearF fm t)) (ea_cons (ev_v 0) (ea_cons (ev_v 2) ea_nil)) (fun H2 e2 Q2 q2 E2 => ⟨a, size, fm, t, rfl, (hf.ex e1).ex e2, ok, ht, q2⟩)) (by have := near_len (fm := fm) (t := t); have := ok.len; omega) (fun _ => rfl) (fun _ _ _ _ => et_yes) (fun m H1 e hm _ => ev_n (ev_v 3) (ev_v 2))
    rw [← nv_map] at em
    refine ret_callL (xs := nv (basesF fm t)) em fun l H2 hl e2 h2 => ⟨l, basesF fm t, rfl, sq_of h2, ?_, fun m hm => ?_, fun L l1 l2 r rs H3 hr e3 h3 h4 => ?_⟩
    · unfold basesF
      rw [List.length_map]
      exact Nat.le_trans near_len ok.len
    · obtain ⟨x, hx, rfl⟩ := List.mem_map.mp hm
      have := xor_lt_sh (ok.lt x (List.mem_filter.mp hx).1) ht
      omega
    · exact q L l1 l2 r rs H3 (fresh_back (e1.trans e2) hr) ((e1.trans e2).trans e3) h3 h4
end
end W7
end
section
namespace W7
open PySem PySem.Spec PyProof.Rows L2 L3 Evl
open C8 (Cal pe_c Mak pe_mk Met pe_mt pe_mt0)
section
variable {P : Program} {w : World} {K : PySem.W.Frag} {mg : Str → Option Value} {base : Heap}
theorem mkMet {m qual : Str} {C : Addr} {st : Stmt} {f : Addr} {fd : FuncData} {N ps : List Str} {k : Nat} {sp : Sp} (c : Cls K C) (me : Meth K C m f) (F : FunD K m qual (defArgs st) (defBody st) (defScope st) [] [] f fd) (S : FnScope N ps (defScope st))
    (hb : ∀ (kV doc pm : Value) (an : Option Addr) (cdv ct : Value) (us : List Value), us.length = ps.length → bindArgs (PySem.W.fnOf m qual (defArgs st) (defBody st) (defScope st) .none kV doc pm an cdv ct) ⟨us, []⟩ = pure (ps.zip us))
    (len : ∀ vs H Q E, sp vs H Q E → vs.length = ps.length) (body : ∀ (cdv : Value) (A : Around) (outer : List Env) (s : Shared) (H : Hp) (vs : List V) (Q : VK) (E : XK), Room k (A.deeper (envOfC qual (defScope st) s.heap.objs.size f cdv)) → sp vs H Q E →
      ∃ t, PSs (cxOf CX0 P w K mg base N qual (defScope st) f cdv A outer s H E).nox (defBody st) t ∧ t { nx := fun _ H' => Q .non H', rt := Q } (start N vs) H) : Met P w K mg base (k + 1) C m sp [] :=
  ⟨f, fd, ps, [], c, me, F.ok S len fun cdv A outer s H vs Q E hr h => (body cdv A outer s H vs Q E hr h).elim fun t z => ⟨t, z.1.nox, z.2⟩, F.bindsN hb, .nil⟩
theorem mkMak {x qual : Str} {C : Addr} {st : Stmt} {f : Addr} {fd : FuncData} {N ps : List Str} {k : Nat} {sp : Sp} (M : Mk K C f) (hm : mg x = some (.ref C)) (F : FunD K "__init__" qual (defArgs st) (defBody st) (defScope st) [] [] f fd) (S : FnScope N ps (defScope st))
    (hb : ∀ (kV doc pm : Value) (an : Option Addr) (cdv ct : Value) (us : List Value), us.length = ps.length → bindArgs (PySem.W.fnOf "__init__" qual (defArgs st) (defBody st) (defScope st) .none kV doc pm an cdv ct) ⟨us, []⟩ = pure (ps.zip us))
    (len : ∀ vs H Q E, sp vs H Q E → vs.length = ps.length) (body : ∀ (cdv : Value) (A : Around) (outer : List Env) (s : Shared) (H : Hp) (vs : List V) (Q : VK) (E : XK), Room k (A.deeper (envOfC qual (defScope st) s.heap.objs.size f cdv)) → sp vs H Q E →
      ∃ t, PSs (cxOf CX0 P w K mg base N qual (defScope st) f cdv A outer s H E).nox (defBody st) t ∧ t { nx := fun _ H' => Q .non H', rt := Q } (start N vs) H) : Mak P w K mg base (k + 1) x C sp [] :=
  ⟨f, fd, ps, [], M, F.ok S len fun cdv A outer s H vs Q E hr h => (body cdv A outer s H vs Q E hr h).elim fun t z => ⟨t, z.1.nox, z.2⟩, hm, F.bindsN hb, .nil⟩
end
section
variable {X : Cx} {K : PySem.W.Frag} {w : World}
theorem cr_setOfIK (hK : X.K = K) (hw : X.w = w) (hc : X.calm = true) : CallR X (.type "set") (rSetOfI K w) := hK ▸ hw ▸ cr_setOfI hc
theorem op_setAndK (hw : X.w = w) : OpR X (binaryOp .BitAnd) (rSetAnd w) := hw ▸ op_setAnd
theorem op_setXorK (hw : X.w = w) : OpR X (binaryOp .BitXor) (rSetXor w) := hw ▸ op_setXor
theorem call_lenSetK (hw : X.w = w) : CallR X (.builtin "len") (rLenSet w) := hw ▸ call_lenSet
end
/-! ### sets of lots -/
def inI (m : Nat) : List Int := (lotF m).map fun n => ((n : Nat) : Int)
theorem mem_inI {m : Nat} {k : Int} : k ∈ inI m ↔ 0 ≤ k ∧ k.toNat < 12 ∧ m.testBit k.toNat = true := by
  unfold inI
  constructor
  · intro h
    obtain ⟨n, hn, rfl⟩ := List.mem_map.mp h
    have := List.mem_filter.mp hn
    exact ⟨by omega, by simpa using this.1, by simpa using this.2⟩
  · rintro ⟨h1, h2, h3⟩
    exact List.mem_map.mpr ⟨k.toNat, List.mem_filter.mpr ⟨List.mem_range.mpr h2, h3⟩, by omega⟩
theorem inI_nodup (m : Nat) : (inI m).Nodup := List.Pairwise.map _ (fun a b h => by omega) (lot_asc m)
theorem lot_len : ∀ m : Nat, m < 64 → (lotF m).length = bits m := by decide +kernel
theorem bits_le : ∀ m : Nat, m < 64 → bits m ≤ 7 := by decide +kernel
section
variable {K : PySem.W.Frag} {w : World} {σ : L2.St} {H H' : Hp} {ta tb tc te tl : TE} {v z : V} {t : TT}
theorem ev_set {m : Nat} {p : Addr} {Q : VK} {σ : L2.St} {H : Hp} (hp : H p = some (.tup (nv (lotF m)))) (ha : Ev ta σ H (.ref p)) (q : ∀ s c H2, H s = none → Ex H H2 → H2 s = some (SetO w s (fun j => decide (j ∈ inI m)) c) → c ≤ (lotF m).length → Q (.ref s) H2) : tCB (rSetOfI K w) (tCons ta tNil) σ H Q :=
  ha H (Ex.refl H) _ fun H1 e1 => ⟨p, inI m, rfl, st_of (by rw [e1 _ _ hp]; unfold nv inI; rw [List.map_map]; rfl), by
    unfold inI; rw [List.length_map]
    exact Nat.le_trans (List.length_filter_le _ _) (by rw [List.length_range]; decide), fun s c hs hc => q s c _ (fresh_back e1 hs) (e1.trans (Ex.new hs)) upd_same (by unfold inI at hc; rw [List.length_map] at hc; exact hc)⟩
/-- len(set(row) ^ set(other)) -/
theorem ev_symd {m u : Nat} {p b : Addr} (hm : m < 32) (hu : u < 32) (hp : H p = some (.tup (nv (lotF u)))) (hb : H b = some (.tup (nv (lotF m)))) (ha : ∀ H1, Ex H H1 → Ev ta σ H1 (.ref p)) (hbv : ∀ H1, Ex H H1 → Ev tb σ H1 (.ref b)) :
    Ev (tCB (rLenSet w) (tCons (tOp (rSetXor w) (tCB (rSetOfI K w) (tCons ta tNil)) (tCB (rSetOfI K w) (tCons tb tNil))) tNil)) σ H (.int (bits (m ^^^ u) : Nat)) := fun H1 e Q q => by
  have hx : m ^^^ u < 64 := Nat.lt_of_lt_of_le (Nat.xor_lt_two_pow (n := 5) hm hu) (by decide)
  refine ev_set (K := K) (w := w) (e _ _ hp) (ha H1 e) fun s1 c1 H2 hs1 e2 h2 hc1 => ?_
  refine ev_set (K := K) (w := w) (e2 _ _ (e _ _ hb)) (hbv H2 (e.trans e2)) fun s2 c2 H3 hs2 e3 h3 hc2 => ?_
  have l1 := lot_len u (by omega)
  have l2 := lot_len m (by omega)
  have b1 := bits_le u (by omega)
  have b2 := bits_le m (by omega)
  refine ⟨s1, s2, _, _, c1, c2, rfl, rfl, e3 _ _ h2, h3, fun k hk => ?_, by omega, by omega, fun s3 c3 hs3 => ?_⟩
  · have := mem_inI.mp (of_decide_eq_true hk)
    refine ⟨this.1, ?_⟩
    have h5 := tb_lt (n := m) (k := 5) (by omega) this.2.2
    omega
  · refine ⟨s3, _, c3, inI (m ^^^ u), rfl, upd_same, inI_nodup _, fun k => ?_, ?_⟩
    · have e1 : ∀ j, decide (k ∈ inI j) = (decide (0 ≤ k) && (decide (k.toNat < 12) && j.testBit k.toNat)) := fun j => by
        rw [Bool.eq_iff_iff, decide_eq_true_iff, mem_inI]
        simp
      have e2 : k ∈ inI (m ^^^ u) ↔ decide (k ∈ inI (m ^^^ u)) = true := by simp
      rw [e2, e1, e1, e1, Nat.testBit_xor]
      cases decide (0 ≤ k) <;> cases decide (k.toNat < 12) <;> cases m.testBit k.toNat <;> cases u.testBit k.toNat <;> simp
    · have : (inI (m ^^^ u)).length = bits (m ^^^ u) := by unfold inI; rw [List.length_map, lot_len _ hx]
      rw [this]
      exact q _ (e2.trans (e3.trans (Ex.new hs3)))
theorem ev_meet {m u : Nat} {p b : Addr} (hm : m < 32) (hu : u < 32) (hp : H p = some (.tup (nv (lotF u)))) (hb : H b = some (.tup (nv (lotF m)))) (ha : ∀ H1, Ex H H1 → Ev ta σ H1 (.ref p)) (hbv : ∀ H1, Ex H H1 → Ev tb σ H1 (.ref b)) :
    Ev (tCB (rLenSet w) (tCons (tOp (rSetAnd w) (tCB (rSetOfI K w) (tCons ta tNil)) (tCB (rSetOfI K w) (tCons tb tNil))) tNil)) σ H (.int (bits (m &&& u) : Nat)) := fun H1 e Q q => by
  have hx : m &&& u < 64 := Nat.lt_of_le_of_lt Nat.and_le_left (by omega)
  refine ev_set (K := K) (w := w) (e _ _ hp) (ha H1 e) fun s1 c1 H2 hs1 e2 h2 hc1 => ?_
  refine ev_set (K := K) (w := w) (e2 _ _ (e _ _ hb)) (hbv H2 (e.trans e2)) fun s2 c2 H3 hs2 e3 h3 hc2 => ?_
  have hne : s1 ≠ s2 := fun e => by rw [e] at h2; rw [h2] at hs2; cases hs2
  refine ⟨s1, s2, _, _, c1, c2, rfl, rfl, hne, e3 _ _ h2, h3, fun s3 c3 hs3 => ?_⟩
  · refine ⟨s3, _, c3, inI (m &&& u), rfl, upd_same, inI_nodup _, fun k => ?_, ?_⟩
    · have e1 : ∀ j, decide (k ∈ inI j) = (decide (0 ≤ k) && (decide (k.toNat < 12) && j.testBit k.toNat)) := fun j => by
        rw [Bool.eq_iff_iff, decide_eq_true_iff, mem_inI]
        simp
      have e2 : k ∈ inI (m &&& u) ↔ decide (k ∈ inI (m &&& u)) = true := by simp
      rw [e2, e1, e1, e1, Nat.testBit_and]
      cases decide (0 ≤ k) <;> cases decide (k.toNat < 12) <;> cases m.testBit k.toNat <;> cases u.testBit k.toNat <;> simp
    · have : (inI (m &&& u)).length = bits (m &&& u) := by unfold inI; rw [List.length_map, lot_len _ hx]
      rw [this]
      exact q _ (e2.trans (e3.trans (Ex.new hs3)))
end
theorem FamOk.lt32 {size : Nat} {fm : List Nat} (o : FamOk size fm) : ∀ m ∈ fm, m < 32 := fun m hm => by
  have := o.lt m hm
  have h5 := o.s5
  have h : 1 <<< size ≤ 1 <<< 5 := by rw [Nat.one_shiftLeft, Nat.one_shiftLeft]; exact Nat.pow_le_pow_right (by decide) h5
  have : (1 <<< 5 : Nat) = 32 := by decide
  omega
theorem sh32 {size t : Nat} (h5 : size ≤ 5) (h : t < 1 <<< size) : t < 32 := by
  have h : 1 <<< size ≤ 1 <<< 5 := by rw [Nat.one_shiftLeft, Nat.one_shiftLeft]; exact Nat.pow_le_pow_right (by decide) h5
  have : (1 <<< 5 : Nat) = 32 := by decide
  omega
section
variable {P : Program} {w : World} {K : PySem.W.Frag} {mg : Str → Option Value} {base : Heap} {f : Addr} {fd : FuncData} {CF CA : Addr}
def spDepth (CF : Addr) : Sp := fun vs H Q _ => ∃ (a p : Addr) (size : Nat) (fm : List Nat) (t : Nat), vs = [.ref a, .ref p] ∧ FamAt H CF a size fm ∧ FamOk size fm ∧ t < 1 <<< size ∧ LotA H p (lotF t) ∧ RetV (.int (mn (fm.map fun m => bits (m ^^^ t)) : Nat)) H Q
theorem sc_Family_depth : FnScope ["self", "lot", "row", "other"] ["self", "lot"] (defScope (inClass (top 52) 16)) := ⟨rfl, rfl, rfl, by decide +kernel, rfl, by decide +kernel, by decide +kernel⟩
theorem m_depth (C : FC K CF) (me : Meth K CF "depth" f) (F : FunD K "depth" "Family.depth" (defArgs (inClass (top 52) 16)) (defBody (inClass (top 52) 16)) (defScope (inClass (top 52) 16)) [] [] f fd) (B : Bi mg) (c_lot_of : Cal P w K mg base 3 "lot_of" spLotOf []) : Met P w K mg base 4 CF "depth" (spDepth CF) [] := by
  refine mkMet C.cls me F sc_Family_depth (fun _ _ _ _ _ _ us hl => match us, hl with | [_, _], _ => rfl) (fun vs H Q E h => ?_) (fun cdv A outer s H vs Q E hr h => ?_)
  · obtain ⟨a, p, size, fm, t, rfl, _⟩ := h
    rfl
  · obtain ⟨a, p, size, fm, t, rfl, hf, ok, ht, hp, q⟩ := h
    have hz := ok.s5
    have lo := lot_ok ht (by omega)
    have hne2 : fm.map (fun n => bits (n ^^^ t)) ≠ [] := by simpa using ok.ne
    refine ⟨_, (pss_cons (ps_set (i := 2) sc_Family_depth.nd rfl (by first | exact Or.inl rfl | exact Or.inr rfl) (pe_c c_lot_of hr (by decide) rfl (pa_cons (pv 1) (pa_cons (pe_fld (pv 0) rfl) pa_nil)))) (pss_one (ps_ret (pe_callB (cr_min rfl) (by rfl) B.min (by decide +kernel) (pa_cons (pe_lc (own := [("other", 3)]) (g := gName 3) (by rfl) sc_Family_depth.nd (pi_tup (pe_fld (pv 0) rfl)) (blkOk_by (own := [("other", 3)]) (N := ["self", "lot", "row", "other"]) (sc := defScope (inClass (top 52) 16)) (by decide +kernel)) (fun _ _ _ _ _ => (pg_name (i := 3) sc_Family_depth.nd rfl (by first | exact Or.inl rfl | exact Or.inr rfl))) (fun _ _ _ _ _ => pts_nil) (fun _ _ _ _ _ => (pe_callB (call_lenSetK (w := w) rfl) (by rfl) B.len (by decide +kernel) (pa_cons (pe_op (op_setXorK (w := w) rfl) (pe_callTy (cr_setOfIK (K := K) (w := w) rfl rfl rfl) (by rfl) B.set (by decide +kernel) (pa_cons (pv 2) pa_nil)) (pe_callTy (cr_setOfIK (K := K) (w := w) rfl rfl rfl) (by rfl) B.set (by decide +kernel) (pa_cons (pv 3) pa_nil))) pa_nil)))) pa_nil))))), ?_⟩
    refine q_asgU (eu_call (xs := nv (lotF t)) (ea_cons (ev_v 1) (ea_cons (ev_size hf C (ev_v 0)) ea_nil)) fun H2 e2 Q2 q2 E2 => ⟨p, lotF t, size, rfl, hp.ex e2, lo.1, lo.2, q2⟩) fun r H1 hr1 e1 h1 => ?_
    obtain ⟨dx, fs, tl, rs, g1, g2, g3, g4, g5, g6⟩ := hf.ex e1
    refine s_ret (ev_minN (ns := fm.map fun n => bits (n ^^^ t)) ?_ (mn_ok hne2).1 (mn_ok hne2).2) fun H2 e2 => q H2 (e1.trans e2)
    have el := el_lotsT (K := K) (te := tCB (rLenSet w) (tCons (tOp (rSetXor w) (tCB (rSetOfI K w) (tCons (tVar 2) tNil)) (tCB (rSetOfI K w) (tCons (tVar 3) tNil))) tNil)) (tl := tFld K (tVar 0) "lots") (j := 3) (vs := [3]) (σ := [some (.ref a), some (.ref p), some (.ref r), none]) (H := H1) (fun ns => .int (bits (orF ns ^^^ t) : Nat)) (ev_fld (ev_v 0) g1 C.cls C.a2 g3) (st_of g5) g6 (by rw [List.length_map]; have := ok.len; omega) (fun _ => rfl) (fun x ns H2 e2 hx hns => by
      obtain ⟨b, rfl, hb⟩ := hx
      obtain ⟨m, hm, rfl⟩ := List.mem_map.mp hns
      rw [orF_lot m (ok.lt64 m hm)]
      exact ev_symd (ok.lt32 m hm) (sh32 hz ht) (e2 _ _ h1) hb (fun H3 e3 => ev_v 2) (fun H3 e3 => ev_v 3))
    have e3 : (fm.map lotF).map (fun ns => V.int (bits (orF ns ^^^ t) : Nat)) = nv (fm.map fun n => bits (n ^^^ t)) := by
      unfold nv
      simp only [List.map_map]
      refine List.map_congr_left fun m hm => ?_
      show V.int ((bits (orF (lotF m) ^^^ t) : Nat) : Int) = _
      rw [orF_lot m (ok.lt64 m hm)]; rfl
    rw [e3] at el
    exact el
end
end W7
end
section
namespace W7
/-! ### counting things of masks below 32 -/
theorem bit_off : ∀ a : Nat, a < 32 → ∀ x : Nat, x < 5 → a.testBit x = true → bits (a ^^^ (1 <<< x)) + 1 = bits a := by decide +kernel
theorem bit_on : ∀ a : Nat, a < 32 → ∀ x : Nat, x < 5 → a.testBit x = false → bits (a ^^^ (1 <<< x)) = bits a + 1 := by decide +kernel
theorem more_bits : ∀ a : Nat, a < 32 → ∀ b : Nat, b < 32 → bits b < bits a → ∃ n, n < 5 ∧ a.testBit n = true ∧ b.testBit n = false := by
  have h : ∀ a : Nat, a < 32 → ∀ b : Nat, b < 32 → (Nat.blt (bits b) (bits a) = true → (List.range 5).any (fun n => a.testBit n && !b.testBit n) = true) := by decide +kernel
  intro a ha b hb hl
  obtain ⟨n, hn, h2⟩ := List.any_eq_true.mp (h a ha b hb (by simpa [Nat.blt_eq] using hl))
  rw [Bool.and_eq_true, Bool.not_eq_true'] at h2
  exact ⟨n, List.mem_range.mp hn, h2.1, h2.2⟩
theorem tog_lt {p y : Nat} (hp : p < 32) (hy : y < 5) : p ^^^ (1 <<< y) < 32 := by
  rw [Nat.one_shiftLeft]
  exact Nat.xor_lt_two_pow (n := 5) hp (Nat.pow_lt_pow_right (by decide) hy)
theorem tb_tog (p y j : Nat) : (p ^^^ (1 <<< y)).testBit j = (p.testBit j != decide (y = j)) := by rw [Nat.testBit_xor, tb_sh]
theorem tog_ne {p y j : Nat} (h : y ≠ j) : (p ^^^ (1 <<< y)).testBit j = p.testBit j := by rw [tb_tog]; simp [h]
theorem tog_eq (p y : Nat) : (p ^^^ (1 <<< y)).testBit y = !p.testBit y := by rw [tb_tog]; simp
theorem tog_and {p y N : Nat} : (p ^^^ (1 <<< y)) &&& N = if N.testBit y then (p &&& N) ^^^ (1 <<< y) else p &&& N := by
  apply Nat.eq_of_testBit_eq
  intro j
  by_cases h : N.testBit y = true
  · rw [if_pos h, Nat.testBit_and, tb_tog, tb_tog, Nat.testBit_and]
    by_cases hj : y = j
    · subst hj; simp [h]
    · simp [hj]
  · rw [if_neg h, Nat.testBit_and, tb_tog, Nat.testBit_and]
    by_cases hj : y = j
    · subst hj; simp [h]
    · simp [hj]
theorem and32 {p N : Nat} (hp : p < 32) : p &&& N < 32 := Nat.lt_of_le_of_lt Nat.and_le_left hp
/-- taken out of N | put into N | beside N -/
theorem cn_off {p y N : Nat} (hp : p < 32) (hy : y < 5) (h1 : N.testBit y = true) (h2 : p.testBit y = true) : bits ((p ^^^ (1 <<< y)) &&& N) + 1 = bits (p &&& N) := by
  rw [tog_and, if_pos h1]
  exact bit_off _ (and32 hp) y hy (by rw [Nat.testBit_and, h1, h2]; rfl)
theorem cn_on {p y N : Nat} (hp : p < 32) (hy : y < 5) (h1 : N.testBit y = true) (h2 : p.testBit y = false) : bits ((p ^^^ (1 <<< y)) &&& N) = bits (p &&& N) + 1 := by
  rw [tog_and, if_pos h1]
  exact bit_on _ (and32 hp) y hy (by rw [Nat.testBit_and, h2]; rfl)
theorem cn_by {p y N : Nat} (h1 : N.testBit y = false) : bits ((p ^^^ (1 <<< y)) &&& N) = bits (p &&& N) := by
  rw [tog_and, if_neg (by rw [h1]; decide)]
theorem lt5 {p x : Nat} (hp : p < 32) (h : p.testBit x = true) : x < 5 := tb_lt (k := 5) hp h
/-! ### a least one -/
theorem least {α : Type} (f : α → Nat) (S : α → Prop) : (∃ a, S a) → ∃ a, S a ∧ ∀ b, S b → f a ≤ f b := by
  rintro ⟨a0, h0⟩
  have go : ∀ (n : Nat) (a : α), S a → f a ≤ n → ∃ a, S a ∧ ∀ b, S b → f a ≤ f b := by
    intro n
    induction n with
    | zero => intro a h hl; exact ⟨a, h, fun b _ => by omega⟩
    | succ n ih =>
      intro a h hl
      by_cases c : ∃ b, S b ∧ f b < f a
      · obtain ⟨b, hb, hl2⟩ := c
        exact ih b hb (by omega)
      · refine ⟨a, h, fun b hb => Nat.le_of_not_lt fun h2 => c ⟨b, hb, h2⟩⟩
  exact go (f a0) a0 h0 (Nat.le_refl _)
/-! ### each lot holds a least one -/
structure EXB (S : Nat → Prop) : Prop where
  ex : EX S
  lt : ∀ n, S n → n < 32
theorem EXB.filter {S : Nat → Prop} (h : EXB S) (m : Nat) : EXB (fun n => S n ∧ n.testBit m = false) := by
  refine ⟨fun p g hp hg x hx => ?_, fun n hn => h.lt n hn.1⟩
  have hxm : x ≠ m := fun e => by rw [e, Nat.testBit_xor, hp.2, hg.2] at hx; cases hx
  rcases h.ex p g hp.1 hg.1 x hx with h1 | ⟨y, h1, h2, h3⟩
  · exact .inl ⟨h1, by rw [tog_ne hxm]; exact hp.2⟩
  · have hym : y ≠ m := fun e => by rw [e, Nat.testBit_xor, hp.2, hg.2] at h2; cases h2
    exact .inr ⟨y, h1, h2, h3, by rw [tog_ne hym, tog_ne hxm]; exact hp.2⟩
theorem EXB.turn {S : Nat → Prop} (h : EXB S) {t : Nat} (ht : t < 32) : EXB (fun n => S (n ^^^ t)) := by
  refine ⟨h.ex.turn t, fun n hn => ?_⟩
  have h1 := h.lt _ hn
  have := Nat.xor_lt_two_pow (n := 5) h1 ht
  rwa [Nat.xor_assoc, Nat.xor_self, Nat.xor_zero] at this
theorem holds_least {S : Nat → Prop} (h : EXB S) {f : Nat} (hf : S f) : ∃ b, S b ∧ (∀ c, S c → bits b ≤ bits c) ∧ b &&& f = b := by
  obtain ⟨b0, hb0⟩ := least bits S ⟨f, hf⟩
  obtain ⟨b, ⟨hb, hm⟩, hd⟩ := least (fun b => bits (b ^^^ f)) (fun b => S b ∧ ∀ c, S c → bits b ≤ bits c) ⟨b0, hb0⟩
  refine ⟨b, hb, hm, ?_⟩
  apply Nat.eq_of_testBit_eq
  intro x
  rw [Nat.testBit_and]
  cases hx : b.testBit x with
  | false => rfl
  | true =>
    cases hfx : f.testBit x with
    | true => rfl
    | false =>
      exfalso
      have b32 := h.lt b hb
      have hx5 := lt5 b32 hx
      have hxd : (b ^^^ f).testBit x = true := by rw [Nat.testBit_xor, hx, hfx]; rfl
      have d32 : b ^^^ f < 32 := Nat.xor_lt_two_pow (n := 5) b32 (h.lt f hf)
      have h1 := bit_off b b32 x hx5 hx
      rcases h.ex b f hb hf x hxd with h2 | ⟨y, h2, h3, h4⟩
      · have := hm _ h2; omega
      · have hy5 := lt5 d32 h3
        have t32 := tog_lt b32 hx5
        cases hy : b.testBit y with
        | true =>
          have := bit_off _ t32 y hy5 (by rw [tog_ne (fun e => h2 e.symm)]; exact hy)
          have := hm _ h4
          omega
        | false =>
          have h5 := bit_on _ t32 y hy5 (by rw [tog_ne (fun e => h2 e.symm)]; exact hy)
          have e1 : (b ^^^ (1 <<< x) ^^^ (1 <<< y)) ^^^ f = (b ^^^ f) ^^^ (1 <<< x) ^^^ (1 <<< y) := by
            rw [Nat.xor_assoc, Nat.xor_assoc, Nat.xor_comm _ f, ← Nat.xor_assoc (1 <<< x), Nat.xor_comm (1 <<< x) f]
            simp only [Nat.xor_assoc]
          have h6 := bit_off _ d32 x hx5 hxd
          have h7 := bit_off _ (tog_lt d32 hx5) y hy5 (by rw [tog_ne (fun e => h2 e.symm)]; exact h3)
          have h8 := hd _ ⟨h4, fun c hc => by have := hm c hc; omega⟩
          rw [e1] at h8
          omega
/-! ### near and far: the step -/
/-- all that meet N least are without x -/
def LeastNo (S : Nat → Prop) (N x : Nat) : Prop := ∀ g, S g → (∀ c, S c → bits (g &&& N) ≤ bits (c &&& N)) → g.testBit x = false
theorem leastNo_filter {S : Nat → Prop} (h : EXB S) {N x m : Nat} (hN : N < 32) (hx : N.testBit x = false) (hm : N.testBit m = false) (hmx : m ≠ x) (h2 : LeastNo S N x) : LeastNo (fun n => S n ∧ n.testBit m = false) N x := by
  intro p0 hp0 hmin0
  cases hpx0 : p0.testBit x with
  | false => rfl
  | true =>
    exfalso
    obtain ⟨g0, hg0, hgm0⟩ := least (fun g => bits (g &&& N)) S ⟨p0, hp0.1⟩
    obtain ⟨⟨p, g⟩, ⟨hp, hpm, hpx, hg, hgm⟩, hd⟩ := least (fun q : Nat × Nat => bits (q.1 ^^^ q.2)) (fun q => (S q.1 ∧ q.1.testBit m = false) ∧ (∀ c, (S c ∧ c.testBit m = false) → bits (q.1 &&& N) ≤ bits (c &&& N)) ∧ q.1.testBit x = true ∧ S q.2 ∧ ∀ c, S c → bits (q.2 &&& N) ≤ bits (c &&& N)) ⟨(p0, g0), hp0, hmin0, hpx0, hg0, hgm0⟩
    simp only at hp hpm hpx hg hgm hd
    have p32 := h.lt p hp.1
    have g32 := h.lt g hg
    have hlt : bits (g &&& N) < bits (p &&& N) := by
      refine Nat.lt_of_not_le fun hle => ?_
      have := h2 p hp.1 (fun c hc => Nat.le_trans hle (hgm c hc))
      rw [hpx] at this; cases this
    obtain ⟨n, hn5, hn1, hn2⟩ := more_bits _ (and32 p32) _ (and32 g32) hlt
    rw [Nat.testBit_and, Bool.and_eq_true] at hn1
    rw [Nat.testBit_and, hn1.2, Bool.and_true] at hn2
    have hnm : n ≠ m := fun e => by rw [e, hm] at hn1; cases hn1.2
    have hnx : n ≠ x := fun e => by rw [e, hx] at hn1; cases hn1.2
    have hnd : (p ^^^ g).testBit n = true := by rw [Nat.testBit_xor, hn1.1, hn2]; rfl
    have d32 : p ^^^ g < 32 := Nat.xor_lt_two_pow (n := 5) p32 g32
    have c1 := cn_off p32 hn5 hn1.2 hn1.1
    have t32 := tog_lt p32 hn5
    -- the lots that meet N least have m
    have hgM : g.testBit m = true := by
      cases e : g.testBit m with
      | true => rfl
      | false => have := hpm g ⟨hg, e⟩; omega
    rcases h.ex p g hp.1 hg n hnd with h3 | ⟨y, h3, h4, h5⟩
    · have := hpm _ ⟨h3, by rw [tog_ne hnm]; exact hp.2⟩
      omega
    · have hy5 := lt5 d32 h4
      have hny : n ≠ y := fun e => h3 e.symm
      by_cases hym : y = m
      · subst hym
        -- one less: it meets N least
        have hle : bits (p &&& N) ≤ bits (g &&& N) + 1 := by
          have hmd : (g ^^^ p).testBit y = true := by rw [Nat.xor_comm]; exact h4
          rcases h.ex g p hg hp.1 y hmd with h6 | ⟨z, h6, h7, h8⟩
          · have := hpm _ ⟨h6, by rw [tog_eq, hgM]; rfl⟩
            rw [cn_by hm] at this
            omega
          · have h9 := hpm _ ⟨h8, by rw [tog_ne h6, tog_eq, hgM]; rfl⟩
            have hz5 := lt5 (by rw [Nat.xor_comm]; exact d32) h7
            have e1 := cn_by (p := g) hm
            cases hz : N.testBit z with
            | false => rw [cn_by hz, e1] at h9; omega
            | true =>
              cases hgz : (g ^^^ (1 <<< y)).testBit z with
              | true => have := cn_off (tog_lt g32 hy5) hz5 hz hgz; omega
              | false => have := cn_on (tog_lt g32 hy5) hz5 hz hgz; omega
        have e2 := cn_by (p := p ^^^ (1 <<< n)) hm
        have := h2 _ h5 (fun c hc => by have := hgm c hc; omega)
        rw [tog_ne hmx, tog_ne hnx, hpx] at this
        cases this
      · have hin : S (p ^^^ (1 <<< n) ^^^ (1 <<< y)) ∧ (p ^^^ (1 <<< n) ^^^ (1 <<< y)).testBit m = false := ⟨h5, by rw [tog_ne hym, tog_ne hnm]; exact hp.2⟩
        have h6 := hpm _ hin
        cases hyN : N.testBit y with
        | false => rw [cn_by hyN] at h6; omega
        | true =>
          cases hpy : p.testBit y with
          | true =>
            have := cn_off t32 hy5 hyN (by rw [tog_ne hny]; exact hpy)
            omega
          | false =>
            have c2 := cn_on t32 hy5 hyN (by rw [tog_ne hny]; exact hpy)
            have hyx : y ≠ x := fun e => by rw [e, hx] at hyN; cases hyN
            have e1 : (p ^^^ (1 <<< n) ^^^ (1 <<< y)) ^^^ g = (p ^^^ g) ^^^ (1 <<< n) ^^^ (1 <<< y) := by
              rw [Nat.xor_assoc, Nat.xor_assoc, Nat.xor_comm _ g, ← Nat.xor_assoc (1 <<< n), Nat.xor_comm (1 <<< n) g]
              simp only [Nat.xor_assoc]
            have h7 := bit_off _ d32 n hn5 hnd
            have h8 := bit_off _ (tog_lt d32 hn5) y hy5 (by rw [tog_ne hny]; exact h4)
            have h9 := hd (p ^^^ (1 <<< n) ^^^ (1 <<< y), g) ⟨hin, fun c hc => by have := hpm c hc; show bits ((p ^^^ (1 <<< n) ^^^ (1 <<< y)) &&& N) ≤ _; omega, by show (p ^^^ (1 <<< n) ^^^ (1 <<< y)).testBit x = true; rw [tog_ne hyx, tog_ne hnx]; exact hpx, hg, hgm⟩
            simp only at h9
            rw [e1] at h9
            omega
def cnt (p : Nat) (M : List Nat) : Nat := (M.filter fun m => p.testBit m).length
theorem cnt_cons (p m : Nat) (M : List Nat) : cnt p (m :: M) = (if p.testBit m then 1 else 0) + cnt p M := by
  unfold cnt
  rw [List.filter_cons]
  by_cases h : p.testBit m = true
  · rw [if_pos h, if_pos h, List.length_cons]; omega
  · simp only [if_neg h]; omega
theorem cnt_tog {p y : Nat} : ∀ {M : List Nat}, M.Nodup → cnt (p ^^^ (1 <<< y)) M ≤ cnt p M + 1
  | [], _ => by show (0 : Nat) ≤ 0 + 1; decide
  | m :: M, h => by
    rw [List.nodup_cons] at h
    rw [cnt_cons, cnt_cons]
    by_cases hy : y = m
    · subst hy
      have : cnt (p ^^^ (1 <<< y)) M = cnt p M := by
        unfold cnt
        congr 1
        refine List.filter_congr fun z hz => ?_
        rw [tog_ne (p := p) (y := y) (j := z) (fun e => h.1 (by rw [e]; exact hz))]
      rw [this]
      split <;> split <;> omega
    · have := cnt_tog (p := p) (y := y) h.2
      rw [tog_ne hy]
      omega
theorem cnt_off {p m : Nat} {M : List Nat} (h : m ∉ M) : cnt (p ^^^ (1 <<< m)) M = cnt p M := by
  unfold cnt
  congr 1
  refine List.filter_congr fun z hz => ?_
  rw [tog_ne (p := p) (y := m) (j := z) (fun e => h (by rw [e]; exact hz))]
/-- so one that meets M least is without x -/
theorem least_without {N x : Nat} (hN : N < 32) (hx : N.testBit x = false) : ∀ (M : List Nat), M.Nodup → (∀ m ∈ M, N.testBit m = false ∧ m ≠ x) → ∀ S : Nat → Prop, EXB S → (∃ p, S p) → LeastNo S N x → ∃ p, S p ∧ p.testBit x = false ∧ ∀ c, S c → cnt p M ≤ cnt c M
  | [], _, _, S, h, he, hl => by
    obtain ⟨g, hg, hm⟩ := least (fun g => bits (g &&& N)) S he
    exact ⟨g, hg, hl g hg hm, fun c _ => Nat.le_refl _⟩
  | m :: M, hnd, hM, S, h, he, hl => by
    rw [List.nodup_cons] at hnd
    have hm := hM m List.mem_cons_self
    have hM2 : ∀ z ∈ M, N.testBit z = false ∧ z ≠ x := fun z hz => hM z (List.mem_cons_of_mem _ hz)
    by_cases c : ∃ p, S p ∧ p.testBit m = false
    · obtain ⟨p0, hp0⟩ := c
      obtain ⟨p, hp, hpx, hpm⟩ := least_without hN hx M hnd.2 hM2 _ (h.filter m) ⟨p0, hp0⟩ (leastNo_filter h hN hx hm.1 hm.2 hl)
      refine ⟨p, hp.1, hpx, fun f hf => ?_⟩
      rw [cnt_cons, cnt_cons, hp.2]
      cases hfm : f.testBit m with
      | false => have := hpm f ⟨hf, hfm⟩; simpa using this
      | true =>
        have hd : (f ^^^ p0).testBit m = true := by rw [Nat.testBit_xor, hfm, hp0.2]; rfl
        rcases h.ex f p0 hf hp0.1 m hd with h1 | ⟨y, h1, h2, h3⟩
        · have := hpm _ ⟨h1, by rw [tog_eq, hfm]; rfl⟩
          rw [cnt_off hnd.1] at this
          simp; omega
        · have h4 := hpm _ ⟨h3, by rw [tog_ne h1, tog_eq, hfm]; rfl⟩
          have h5 := cnt_tog (p := f ^^^ (1 <<< m)) (y := y) hnd.2
          rw [cnt_off hnd.1] at h5
          simp; omega
    · obtain ⟨p, hp, hpx, hpm⟩ := least_without hN hx M hnd.2 hM2 S h he hl
      refine ⟨p, hp, hpx, fun f hf => ?_⟩
      have all : ∀ q, S q → q.testBit m = true := fun q hq => by
        cases e : q.testBit m with
        | true => rfl
        | false => exact absurd ⟨q, hq, e⟩ c
      rw [cnt_cons, cnt_cons, all p hp, all f hf]
      have := hpm f hf
      omega
end W7
end
section
namespace W7
open PySem PySem.Spec PyProof.Rows L2 L3 Evl
open C8 (Cal pe_c Mak pe_mk Met pe_mt pe_mt0)
structure AC (K : PySem.W.Frag) (CA : Addr) : Prop where
  cls : Cls K CA
  a1 : NoAttr K CA "family"
  a2 : NoAttr K CA "lot"
  a3 : NoAttr K CA "_bases"
  a4 : NoAttr K CA "rank"
theorem perm_lots {bs : List Nat} {L : List (List Nat)} (h : L.Perm (bs.map lotF)) (hb : ∀ b ∈ bs, b < 64) : ∃ bm : List Nat, L = bm.map lotF ∧ bm.Perm bs := by
  refine ⟨L.map orF, ?_, ?_⟩
  · rw [List.map_map]
    refine (List.map_id L).symm.trans (List.map_congr_left fun l hl => ?_)
    obtain ⟨m, hm, rfl⟩ := List.mem_map.mp (h.mem_iff.mp hl)
    show lotF m = lotF (orF (lotF m))
    rw [orF_lot m (hb m hm)]
  · refine (h.map orF).trans ?_
    rw [List.map_map]
    have e : bs.map (orF ∘ lotF) = bs := (List.map_congr_left fun m hm => orF_lot m (hb m hm)).trans (List.map_id bs)
    rw [e]
def XB (x : Addr) (H H' : Hp) : Prop := ∀ b o, b ≠ x → H b = some o → H' b = some o
theorem XB.ex {x : Addr} {H H1 H2 : Hp} (a : XB x H H1) (e : Ex H1 H2) : XB x H H2 := fun b o n h => e _ _ (a b o n h)
theorem XB.up {x : Addr} {H H1 : Hp} {o : HO} (a : XB x H H1) : XB x H (upd H1 x o) := fun b u n h => by rw [upd_ne n]; exact a b u n h
theorem TupV.xb {x : Addr} {H H' : Hp} {C dx : Addr} {fs : List (Str × V)} {r : V} {ns : List Nat} (h : TupV H r ns) (hx : H x = some (.ins C dx fs)) (b : XB x H H') : TupV H' r ns := h.elim fun t z => ⟨t, z.1, b t _ (fun e => by rw [e, hx] at z; cases z.2) z.2⟩
theorem Lots.xb {x : Addr} {H H' : Hp} {C dx : Addr} {fs : List (Str × V)} {rs : List V} {L : List (List Nat)} (h : Lots H rs L) (hx : H x = some (.ins C dx fs)) (b : XB x H H') : Lots H' rs L := ⟨h.1, fun i r ns u v => (h.2 i r ns u v).xb hx b⟩
theorem FamAt.xb {x a CF C dx : Addr} {H H' : Hp} {fs : List (Str × V)} {size : Nat} {fm : List Nat} (h : FamAt H CF a size fm) (ha : a ≠ x) (hx : H x = some (.ins C dx fs)) (b : XB x H H') : FamAt H' CF a size fm := by
  obtain ⟨dx2, fs2, tl, rs, h1, h2, h3, h4, h5, h6⟩ := h
  exact ⟨dx2, fs2, tl, rs, b _ _ ha h1, h2, h3, h4, b _ _ (fun e => by rw [e, hx] at h5; cases h5) h5, h6.xb hx b⟩
def rkF (fm : List Nat) (t : Nat) : Nat := mn (fm.map fun m => bits (m ^^^ t))
/-- no method hidden by an attribute -/
def NoM (fs : List (Str × V)) : Prop := fs.lookup ("rank_of" : Str) = none ∧ fs.lookup ("bases" : Str) = none ∧ fs.lookup ("loops" : Str) = none ∧ fs.lookup ("alike" : Str) = none ∧ fs.lookup ("is_independent" : Str) = none ∧ fs.lookup ("circuits" : Str) = none ∧ fs.lookup ("coloops" : Str) = none ∧ fs.lookup ("spans" : Str) = none ∧ fs.lookup ("lumps" : Str) = none
def AtAt (H : Hp) (CF CA b : Addr) (size : Nat) (fm : List Nat) (t : Nat) : Prop := ∃ (a dx : Addr) (fs : List (Str × V)) (bp : Addr) (rs : List V) (bm : List Nat), H b = some (.ins CA dx fs) ∧ fs.lookup ("family" : Str) = some (.ref a) ∧ fs.lookup ("_bases" : Str) = some (.ref bp) ∧ fs.lookup ("rank" : Str) = some (.int (rkF fm t : Nat)) ∧ NoM fs ∧ H bp = some (.tup rs) ∧ Lots H rs (bm.map lotF) ∧ (bm.Perm (basesF fm t) ∧ (bm.map lotF).Pairwise lexLe) ∧ FamAt H CF a size fm
theorem AtAt.ex {H H' : Hp} {CF CA b : Addr} {size : Nat} {fm : List Nat} {t : Nat} (h : AtAt H CF CA b size fm t) (e : Ex H H') : AtAt H' CF CA b size fm t := by
  obtain ⟨a, dx, fs, bp, rs, bm, h1, h2, h3, h4, h5, h6, h7, h8, h9⟩ := h
  exact ⟨a, dx, fs, bp, rs, bm, e _ _ h1, h2, h3, h4, h5, e _ _ h6, h7.ex e, h8, h9.ex e⟩
theorem bases_bits {fm : List Nat} {t b : Nat} (h : b ∈ basesF fm t) : bits b = rkF fm t := by
  obtain ⟨m, hm, rfl⟩ := List.mem_map.mp h
  exact of_decide_eq_true (List.mem_filter.mp hm).2
theorem bases_ne {fm : List Nat} {t : Nat} (h : fm ≠ []) : basesF fm t ≠ [] := by
  have h2 : fm.map (fun m => bits (m ^^^ t)) ≠ [] := by simpa using h
  obtain ⟨m, hm, e⟩ := List.mem_map.mp (mn_ok h2).1
  exact List.ne_nil_of_mem (List.mem_map.mpr ⟨m, List.mem_filter.mpr ⟨hm, decide_eq_true e⟩, rfl⟩)
theorem bases_lt {size : Nat} {fm : List Nat} {t : Nat} (ok : FamOk size fm) (ht : t < 1 <<< size) {b : Nat} (h : b ∈ basesF fm t) : b < 32 := by
  obtain ⟨m, hm, rfl⟩ := List.mem_map.mp h
  exact sh32 ok.s5 (xor_lt_sh (ok.lt m (List.mem_filter.mp hm).1) ht)
theorem s_fldV {K : PySem.W.Frag} {σ : L2.St} {H : Hp} {D : Ends} {tv : TE} {x C dx : Addr} {fs : List (Str × V)} {f : Str} {v : V} (h : Ev tv σ H v) (hσ : σ[0]? = some (some (.ref x))) (hx : H x = some (.ins C dx fs)) (c : Cls K C) (n : NoAttr K C f) (hl : fs.length < 1000)
    (k : ∀ H1, Ex H H1 → D.nx σ (upd H1 x (.ins C dx (putF f v fs)))) : sFld K (tVar 0) tv f D σ H := h H (Ex.refl H) _ fun H1 e1 => ⟨.ref x, hσ, x, C, dx, fs, rfl, e1 _ _ hx, c, n, hl, k H1 e1⟩
theorem ev_lenT {K : PySem.W.Frag} {σ : L2.St} {H : Hp} {ta : TE} {p : Addr} {xs : List V} (ha : Ev ta σ H (.ref p)) (h : SqT K H p xs) : Ev (tCB (rLenS K) (tCons ta tNil)) σ H (.int (xs.length : Int)) := fun H1 e Q q =>
  ha H1 e _ fun H2 e2 => ⟨p, xs, rfl, Or.inr (ex_t (e.trans e2) h), q H2 e2⟩
theorem ev_lenV {K : PySem.W.Frag} {σ : L2.St} {H : Hp} {ta : TE} {v : V} {ns : List Nat} (ha : Ev ta σ H v) (h : TupV H v ns) : Ev (tCB (rLenS K) (tCons ta tNil)) σ H (.int (ns.length : Nat)) := by
  obtain ⟨p, rfl, hp⟩ := h
  exact ev_is (ev_lenT ha (st_of hp)) (by rw [nv_len])
section
variable {P : Program} {w : World} {K : PySem.W.Frag} {mg : Str → Option Value} {base : Heap} {f : Addr} {fd : FuncData} {CF CA : Addr}
def spAt (CF CA : Addr) : Sp := fun vs H Q _ => ∃ (x a p dx : Addr) (size : Nat) (fm : List Nat) (t : Nat), vs = [.ref x, .ref a, .ref p] ∧ a ≠ x ∧ H x = some (.ins CA dx []) ∧ FamAt H CF a size fm ∧ FamOk size fm ∧ RowsOk size fm ∧ t < 1 <<< size ∧ LotA H p (lotF t) ∧
  ∀ H', XB x H H' → AtAt H' CF CA x size fm t → Q .non H'
theorem sc_At___init : FnScope ["self", "family", "lot", "row"] ["self", "family", "lot"] (defScope (inClass (top 48) 0)) := ⟨rfl, rfl, rfl, by decide +kernel, rfl, by decide +kernel, by decide +kernel⟩
theorem m_At (C : FC K CF) (CC : AC K CA) (M : Mk K CA f) (hm : mg "At" = some (.ref CA)) (F : FunD K "__init__" "At.__init__" (defArgs (inClass (top 48) 0)) (defBody (inClass (top 48) 0)) (defScope (inClass (top 48) 0)) [] [] f fd) (B : Bi mg) (c_lot_of : Cal P w K mg base 3 "lot_of" spLotOf []) (c_needs_gated : Cal P w K mg base 6 "needs_gated" (spGate CF) []) (c_bases_at : Cal P w K mg base 4 "bases_at" (spBasesAt CF) []) : Mak P w K mg base 7 "At" CA (spAt CF CA) [] := by
  refine mkMak M hm F sc_At___init (fun _ _ _ _ _ _ us hl => match us, hl with | [_, _, _], _ => rfl) (fun vs H Q E h => ?_) (fun cdv A outer s H vs Q E hr h => ?_)
  · obtain ⟨x, a, p, dx, size, fm, t, rfl, _⟩ := h
    rfl
  · obtain ⟨x, a, p, dx, size, fm, t, rfl, hax, hx, hf, ok, hro, ht, hp, q⟩ := h
    have hz := ok.s5
    have lo := lot_ok ht (by omega)
    refine ⟨_, (pss_cons (ps_set (i := 3) sc_At___init.nd rfl (by first | exact Or.inl rfl | exact Or.inr rfl) (pe_c c_lot_of hr (by decide) rfl (pa_cons (pv 2) (pa_cons (pe_fld (pv 1) rfl) pa_nil)))) (pss_cons (ps_expr (pe_c c_needs_gated hr (by decide) rfl (pa_cons (pv 1) pa_nil))) (pss_cons (ps_fld (pv 0) (pv 1) rfl) (pss_cons (ps_fld (pv 0) (pv 3) rfl) (pss_cons (ps_fld (pv 0) (pe_callTy call_tuple_of (by rfl) B.tuple (by decide +kernel) (pa_cons (pe_c c_bases_at hr (by decide) rfl (pa_cons (pv 1) (pa_cons (pv 3) pa_nil))) pa_nil)) rfl) (pss_one (ps_fld (pv 0) (pe_callB call_len_seq (by rfl) B.len (by decide +kernel) (pa_cons (pe_ix (on_ixT (K := K)) (pe_fld (pv 0) rfl) (pe_nat 0 pe_int) (fun _ _ => rfl)) pa_nil)) rfl))))))), ?_⟩
    refine q_asgU (eu_call (xs := nv (lotF t)) (ea_cons (ev_v 2) (ea_cons (ev_size hf C (ev_v 1)) ea_nil)) fun H2 e2 Q2 q2 E2 => ⟨p, lotF t, size, rfl, hp.ex e2, lo.1, lo.2, q2⟩) fun r H1 hr1 e1 h1 => ?_
    refine q_drop (ev_call (ea_cons (ev_v 1) ea_nil) fun H2 e2 Q2 q2 E2 => ⟨a, size, fm, rfl, (hf.ex e1).ex e2, ok, hro, q2⟩) fun H2 e2 => ?_
    have hx2 := e2 _ _ (e1 _ _ hx)
    have x2 : XB x H H2 := fun b o _ h => e2 _ _ (e1 _ _ h)
    have r2 : H2 r = some (.tup (nv (lotF t))) := e2 _ _ h1
    have hrx : r ≠ x := fun e => by rw [e, hx2] at r2; cases r2
    have f2 := (hf.ex e1).ex e2
    refine ⟨.ref a, rfl, .ref x, rfl, x, CA, dx, [], rfl, hx2, CC.cls, CC.a1, by decide, ?_⟩
    have b3 : XB x H2 (upd H2 x (.ins CA dx (putF "family" (.ref a) []))) := fun b o n h => by rw [upd_ne n]; exact h
    refine ⟨.ref r, rfl, .ref x, rfl, x, CA, dx, _, rfl, upd_same, CC.cls, CC.a2, by show 1 < 1000; decide, ?_⟩
    rw [upd_upd]
    generalize hH4 : upd H2 x (.ins CA dx (putF "lot" (.ref r) (putF "family" (.ref a) []))) = H4
    have b4 : XB x H2 H4 := fun b o n h => by rw [← hH4, upd_ne n]; exact h
    have hx4 : H4 x = some (.ins CA dx (putF "lot" (.ref r) (putF "family" (.ref a) []))) := by rw [← hH4, upd_same]
    have f4 := f2.xb hax hx2 b4
    refine ⟨.ref a, rfl, .ref r, rfl, a, r, size, fm, t, rfl, f4, ok, ht, .inr (b4 _ _ hrx r2), fun L l1 l2 l rs H5 hl e5 h5 h6 => ⟨l, rs, rfl, .inl ⟨sq_of h5, fun bp hbp => ?_⟩⟩⟩
    have e6 := Ex.new (o := .tup rs) hbp
    have hx6 := e6 _ _ (e5 _ _ hx4)
    refine ⟨.ref x, rfl, x, CA, dx, _, rfl, hx6, CC.cls, CC.a3, by show 2 < 1000; decide, ?_⟩
    obtain ⟨bm, rfl, hbm⟩ := perm_lots l1 fun b hb => by have := bases_lt ok ht hb; omega
    generalize hH7 : upd (upd H5 bp (.tup rs)) x (.ins CA dx (putF "_bases" (.ref bp) (putF "lot" (.ref r) (putF "family" (.ref a) [])))) = H7
    have b7 : XB x (upd H5 bp (.tup rs)) H7 := fun b o n h => by rw [← hH7, upd_ne n]; exact h
    have hx7 : H7 x = some (.ins CA dx (putF "_bases" (.ref bp) (putF "lot" (.ref r) (putF "family" (.ref a) [])))) := by rw [← hH7, upd_same]
    have hbpx : bp ≠ x := fun e => by rw [e, e5 _ _ hx4] at hbp; cases hbp
    have g7 : H7 bp = some (.tup rs) := b7 _ _ hbpx upd_same
    have l7 : Lots H7 rs (bm.map lotF) := (h6.ex e6).xb hx6 b7
    have f7 := ((f4.ex e5).ex e6).xb hax hx6 b7
    have hne : bm ≠ [] := fun e => by rw [e] at hbm; exact bases_ne ok.ne hbm.nil_eq.symm
    obtain ⟨m0, bt, hb0⟩ := List.exists_cons_of_ne_nil hne
    have hrl : 0 < rs.length := by rw [l7.1, List.length_map, hb0]; exact Nat.succ_pos _
    have hr0 : rs[0]? = some rs[0] := List.getElem?_eq_some_iff.mpr ⟨hrl, rfl⟩
    have ht0 : TupV H7 rs[0] (lotF m0) := l7.2 0 _ _ hr0 (by rw [hb0]; rfl)
    have hm0 : m0 ∈ basesF fm t := hbm.mem_iff.mp (by rw [hb0]; exact List.mem_cons_self)
    refine s_fldV (ev_lenV (K := K) (ns := lotF m0) (ev_ixT (st_of g7) (ev_fld (ev_v 0) hx7 CC.cls CC.a3 rfl) ev_c hr0) ht0) rfl hx7 CC.cls CC.a4 (by show 3 < 1000; decide) fun H8 e8 => ?_
    rw [lot_len m0 (by have := bases_lt ok ht hm0; omega), bases_bits hm0]
    have b9 : XB x H8 (upd H8 x (.ins CA dx (putF "rank" (.int (rkF fm t : Nat)) (putF "_bases" (.ref bp) (putF "lot" (.ref r) (putF "family" (.ref a) [])))))) := fun b o n h => by rw [upd_ne n]; exact h
    refine q _ (fun b o n h => b9 _ _ n (e8 _ _ (b7 _ _ n (e6 _ _ (e5 _ _ (b4 _ _ n (x2 _ _ n h))))))) ⟨a, dx, _, bp, rs, bm, upd_same, rfl, rfl, rfl, ⟨rfl, rfl, rfl, rfl, rfl, rfl, rfl, rfl, rfl⟩, b9 _ _ hbpx (e8 _ _ g7), (l7.ex e8).xb (e8 _ _ hx7) b9, ⟨hbm, l2⟩, (f7.ex e8).xb hax (e8 _ _ hx7) b9⟩
def rkOf (fm : List Nat) (t u : Nat) : Nat := mx ((basesF fm t).map fun b => bits (b &&& u))
def spRank (CF CA : Addr) : Sp := fun vs H Q _ => ∃ (b p : Addr) (size : Nat) (fm : List Nat) (t u : Nat), vs = [.ref b, .ref p] ∧ AtAt H CF CA b size fm t ∧ FamOk size fm ∧ t < 1 <<< size ∧ u < 1 <<< size ∧ LotA H p (lotF u) ∧ RetV (.int (rkOf fm t u : Nat)) H Q
end
end W7
end
section
namespace W7
theorem orF_bset (ns : List Nat) : orF ns = bset ns := rfl
theorem low_tb {size : Nat} {fm : List Nat} {o x : Nat} : (lowF size fm o).testBit x = (decide (x < size) && decide ((o ^^^ (1 <<< x)) ∈ fm)) := by
  unfold lowF
  rw [orF_bset, bset_ok]
  by_cases h1 : x < size <;> by_cases h2 : (o ^^^ (1 <<< x)) ∈ fm <;> simp [h1, h2]
theorem tog_size {o y size : Nat} (h1 : o < 1 <<< size) (h2 : o ^^^ (1 <<< y) < 1 <<< size) : y < size := by
  have h3 := xor_lt_sh h1 h2
  rw [← Nat.xor_assoc, Nat.xor_self, Nat.zero_xor] at h3
  refine Nat.lt_of_not_le fun h => ?_
  rw [Nat.one_shiftLeft, Nat.one_shiftLeft] at h3
  exact absurd h3 (Nat.not_lt_of_le (Nat.pow_le_pow_right (by decide) h))
theorem rows_ok {size : Nat} {fm : List Nat} (hb : ∀ m ∈ fm, m < 1 <<< size) (h : EX (· ∈ fm)) : RowsOk size fm := by
  intro o ho hl ho2 m hm he
  obtain ⟨x, hx⟩ := Nat.exists_testBit_of_ne_zero hl
  have hx1 := hx
  rw [low_tb, Bool.and_eq_true, decide_eq_true_eq, decide_eq_true_eq] at hx1
  have zero : ∀ j, (lowF size fm o).testBit j = true → (m ^^^ o).testBit j = false := fun j hj => by
    have : ((m ^^^ o) &&& lowF size fm o).testBit j = false := by rw [he]; simp
    rw [Nat.testBit_and, hj, Bool.and_true] at this
    exact this
  have hx2 := zero x hx
  have hfx : ((o ^^^ (1 <<< x)) ^^^ m).testBit x = true := by
    rw [Nat.testBit_xor, tog_eq]
    rw [Nat.testBit_xor] at hx2
    cases h1 : o.testBit x <;> cases h2 : m.testBit x <;> rw [h1, h2] at hx2 <;> first | rfl | cases hx2
  have back : (o ^^^ (1 <<< x)) ^^^ (1 <<< x) = o := by rw [Nat.xor_assoc, Nat.xor_self, Nat.xor_zero]
  rcases h _ m hx1.2 hm x hfx with h1 | ⟨y, h1, h2, h3⟩
  · rw [back] at h1
    exact ho2 h1
  · rw [back] at h3
    have hy : y < size := tog_size ho (hb _ h3)
    have h4 := zero y (by rw [low_tb, decide_eq_true hy, decide_eq_true h3]; rfl)
    rw [Nat.testBit_xor, tog_ne (fun e => h1 e.symm)] at h2
    rw [Nat.testBit_xor] at h4
    cases h5 : o.testBit y <;> cases h6 : m.testBit y <;> rw [h5, h6] at h2 h4 <;> first | exact absurd h2 (by decide) | exact absurd h4 (by decide)
/-! ### webs -/
theorem pairRow_congr {ls ls' : List (Nat × Nat)} (h : ∀ l, l ∈ ls ↔ l ∈ ls') : ∀ k, pairRow ls k = pairRow ls' k
  | 0 => rfl
  | k + 1 => by
    rw [pairRow, pairRow, pairRow_congr h k]
    congr 2
    refine Bool.eq_iff_iff.mpr (Iff.trans List.any_eq_true (Iff.trans ?_ List.any_eq_true.symm))
    constructor
    · rintro ⟨l, h1, h2⟩; exact ⟨l, (h l).mp h1, h2⟩
    · rintro ⟨l, h1, h2⟩; exact ⟨l, (h l).mpr h1, h2⟩
theorem mem_code {c : Nat} {l : Nat × Nat} : ∀ {L : List (Nat × Nat)} {k : Nat}, l ∈ codeL c L k ↔ ∃ i, L[i]? = some l ∧ c.testBit (k + i) = true
  | [], k => by simp [codeL]
  | a :: L, k => by
    rw [codeL, hasB_ok]
    have ih := mem_code (c := c) (l := l) (L := L) (k := k + 1)
    constructor
    · intro h
      by_cases hk : c.testBit k = true
      · rw [if_pos hk] at h
        obtain rfl | h := List.mem_cons.mp h
        · exact ⟨0, rfl, hk⟩
        · obtain ⟨i, h1, h2⟩ := ih.mp h
          exact ⟨i + 1, h1, by rw [← h2]; congr 1; omega⟩
      · rw [if_neg hk] at h
        obtain ⟨i, h1, h2⟩ := ih.mp h
        exact ⟨i + 1, h1, by rw [← h2]; congr 1; omega⟩
    · rintro ⟨i, h1, h2⟩
      have tail : ∀ i, L[i]? = some l → c.testBit (k + (i + 1)) = true → l ∈ codeL c L (k + 1) := fun i a b => ih.mpr ⟨i, a, by rw [← b]; congr 1; omega⟩
      by_cases hk : c.testBit k = true
      · rw [if_pos hk]
        cases i with
        | zero => cases h1; exact List.mem_cons_self
        | succ i => exact List.mem_cons_of_mem _ (tail i h1 h2)
      · rw [if_neg hk]
        cases i with
        | zero => exact absurd h2 hk
        | succ i => exact tail i h1 h2
def wide (size : Nat) : Nat := size * (size - 1) / 2
def ixL (l : Nat × Nat) : Nat := l.2 * (l.2 - 1) / 2 + l.1
theorem ix_ok : ∀ y : Nat, y < 5 → ∀ x : Nat, x < y → allL[ixL (x, y)]? = some (x, y) := by decide +kernel
theorem ix_lt : ∀ size : Nat, size < 6 → ∀ y : Nat, y < size → ∀ x : Nat, x < y → ixL (x, y) < wide size := by decide +kernel
theorem all_ix : ∀ i : Nat, i < 10 → ixL (allL.getD i (0, 0)) = i := by decide +kernel
theorem code_of {size : Nat} {ls : List (Nat × Nat)} (h5 : size ≤ 5) (ok : LinksOk size ls) : ∃ c, c < 2 ^ wide size ∧ ∀ l, l ∈ ls ↔ l ∈ codeL c allL 0 := by
  refine ⟨bset (ls.map ixL), ?_, fun l => ?_⟩
  · refine Nat.lt_pow_two_of_testBit _ fun i hi => ?_
    rw [bset_ok]
    refine decide_eq_false fun h => ?_
    obtain ⟨l, hl, rfl⟩ := List.mem_map.mp h
    obtain ⟨a, b⟩ := ok.1 l hl
    have h6 : ixL l < wide size := ix_lt size (by omega) l.2 b l.1 a
    omega
  · rw [mem_code]
    constructor
    · intro h
      obtain ⟨a, b⟩ := ok.1 l h
      refine ⟨ixL l, ix_ok l.2 (by omega) l.1 a, ?_⟩
      rw [Nat.zero_add, bset_ok]
      exact decide_eq_true (List.mem_map.mpr ⟨l, h, rfl⟩)
    · rintro ⟨i, h1, h2⟩
      rw [Nat.zero_add, bset_ok] at h2
      obtain ⟨l2, h3, h4⟩ := List.mem_map.mp (of_decide_eq_true h2)
      obtain ⟨a, b⟩ := ok.1 l2 h3
      have h5 := ix_ok l2.2 (by omega) l2.1 a
      have h6 : allL[ixL l2]? = some l2 := h5
      rw [h4, h1] at h6
      cases h6
      exact h3
theorem joinF_mem {size : Nat} {ms os : List Nat} {n : Nat} : n ∈ joinF size ms os ↔ n < 1 <<< size ∧ ∃ m ∈ ms, ∃ o ∈ os, n = m ^^^ o := by
  unfold joinF listF
  rw [List.mem_filter, List.mem_range, List.length_map, List.length_range]
  constructor
  · rintro ⟨h1, h2⟩
    rw [List.getD, List.getElem?_map, List.getElem?_range h1] at h2
    exact ⟨h1, of_decide_eq_true h2⟩
  · rintro ⟨h1, h2⟩
    refine ⟨h1, ?_⟩
    rw [List.getD, List.getElem?_map, List.getElem?_range h1]
    exact decide_eq_true h2
theorem chkW_EX {size c : Nat} (h5 : size ≤ 5) (h : chkW size c = true) : EX (· ∈ pairF size (codeL c allL 0)) ∧ EX (fun n => n < 1 <<< size ∧ ∃ m ∈ pairF size (codeL c allL 0), ∃ o ∈ os1 size, n = m ^^^ o) := by
  unfold chkW at h
  obtain ⟨h1, h2⟩ := (Bool.and_eq_true _ _).mp h
  refine ⟨chk_EX2 h5 good_pair.2 (bset_ok _) h1, ?_⟩
  have mem2 : ∀ n, n ∈ (List.range (1 <<< size)).filter (fun n => hasB (bset ((pairF size (codeL c allL 0)).flatMap fun m => (os1 size).map fun o => m ^^^ o)) n) ↔ n < 1 <<< size ∧ ∃ m ∈ pairF size (codeL c allL 0), ∃ o ∈ os1 size, n = m ^^^ o := fun n => by
    rw [List.mem_filter, List.mem_range, hasB_ok, bset_ok, decide_eq_true_eq, List.mem_flatMap]
    constructor
    · rintro ⟨a, m, hm, b⟩
      obtain ⟨o, ho, e⟩ := List.mem_map.mp b
      exact ⟨a, m, hm, o, ho, e.symm⟩
    · rintro ⟨a, m, hm, o, ho, e⟩
      exact ⟨a, m, hm, List.mem_map.mpr ⟨o, ho, e.symm⟩⟩
  refine EX.iff (chk_EX2 h5 (size := size) (F := bset ((pairF size (codeL c allL 0)).flatMap fun m => (os1 size).map fun o => m ^^^ o)) (fun m hm => ((mem2 m).mp hm).1) (fun n => ?_) h2) mem2
  rw [bset_ok]
  congr 1
  rw [eq_iff_iff, mem2, List.mem_flatMap]
  constructor
  · rintro ⟨m, hm, b⟩
    obtain ⟨o, ho, e⟩ := List.mem_map.mp b
    refine ⟨?_, m, hm, o, ho, e.symm⟩
    rw [← e]
    exact xor_lt_sh (good_pair.2 m hm) (good_sized.2 o ho)
  · rintro ⟨_, m, hm, o, ho, e⟩
    exact ⟨m, hm, List.mem_map.mpr ⟨o, ho, e.symm⟩⟩
theorem pair_zero {size : Nat} {ls : List (Nat × Nat)} : 0 ∈ pairF size ls := by
  unfold pairF listF
  rw [List.mem_filter, List.mem_range, pairRow_len]
  refine ⟨Nat.succ_pos _, ?_⟩
  have : ∀ k, (pairRow ls k).getD 0 false = true := by
    intro k
    induction k with
    | zero => rfl
    | succ k ih =>
      rw [pairRow, List.getD, List.getElem?_append_left (by rw [pairRow_len]; omega)]
      exact ih
  exact this _
theorem pair_gated (chk : ∀ size, 1 ≤ size → size ≤ 5 → ∀ c, c < 2 ^ wide size → chkW size c = true) : PairGated := by
  intro size ls lot M h1 h5 ok hlot m1 m2
  obtain ⟨c, hc, hcl⟩ := code_of h5 ok
  obtain ⟨x1, x2⟩ := chkW_EX h5 (chk size h1 h5 c hc)
  have ep : pairF size ls = pairF size (codeL c allL 0) := by unfold pairF; rw [pairRow_congr hcl]
  rw [← ep] at x1 x2
  have back : ∀ n : Nat, (n ^^^ lot) ^^^ lot = n := fun n => by rw [Nat.xor_assoc, Nat.xor_self, Nat.xor_zero]
  have memM : ∀ n, n ∈ M ↔ (n ^^^ lot) ∈ pairF size ls := fun n => by
    rw [m1.mem_iff, List.mem_map]
    constructor
    · rintro ⟨a, ha, rfl⟩; rw [back]; exact ha
    · intro h; exact ⟨_, h, back n⟩
  have gM := good_turn good_pair hlot m1 m2
  have hzero : lot ∈ M := (memM lot).mpr (by rw [Nat.xor_self]; exact pair_zero)
  refine ⟨⟨gated_of_EX gM.2 ((x1.turn lot).iff fun n => (memM n).symm), List.ne_nil_of_mem hzero⟩, gated_of_EX good_join.2 ((x2.turn lot).iff fun n => ?_), ?_⟩
  · rw [joinF_mem]
    constructor
    · rintro ⟨a, m, hm, o, ho, e⟩
      have e2 : n = (m ^^^ lot) ^^^ o := by rw [← back n, e, Nat.xor_assoc, Nat.xor_comm o lot, ← Nat.xor_assoc]
      refine ⟨?_, m ^^^ lot, (memM _).mpr (by rw [back]; exact hm), o, ho, e2⟩
      rw [e2]
      exact xor_lt_sh (xor_lt_sh (good_pair.2 m hm) hlot) (good_sized.2 o ho)
    · rintro ⟨a, m, hm, o, ho, e⟩
      refine ⟨xor_lt_sh a hlot, m ^^^ lot, (memM m).mp hm, o, ho, ?_⟩
      rw [e, Nat.xor_assoc, Nat.xor_comm o lot, ← Nat.xor_assoc]
  · have h0 : (0 : Nat) ∈ sizedF size 0 1 := by
      unfold sizedF
      rw [List.mem_filter, List.mem_range]
      refine ⟨by rw [Nat.one_shiftLeft]; exact Nat.two_pow_pos _, by decide⟩
    exact List.ne_nil_of_mem (joinF_mem.mpr ⟨hlot, lot, hzero, 0, h0, by rw [Nat.xor_zero]⟩)
end W7
end
section
namespace W7
/-! ### the lots nearest and farthest, turned -/
structure Gat (size : Nat) (fm : List Nat) (t : Nat) : Prop where
  ok : FamOk size fm
  ex : EX (· ∈ fm)
  t : t < 1 <<< size
def rowsF (fm : List Nat) (t : Nat) : List Nat := (farF fm t).map fun m => m ^^^ t
theorem back (n t : Nat) : (n ^^^ t) ^^^ t = n := by rw [Nat.xor_assoc, Nat.xor_self, Nat.xor_zero]
theorem Gat.exb {size : Nat} {fm : List Nat} {t : Nat} (G : Gat size fm t) : EXB (fun n => (n ^^^ t) ∈ fm) := EXB.turn ⟨G.ex, G.ok.lt32⟩ (sh32 G.ok.s5 G.t)
theorem Gat.lt {size : Nat} {fm : List Nat} {t n : Nat} (G : Gat size fm t) (h : (n ^^^ t) ∈ fm) : n < 1 <<< size := by
  have := xor_lt_sh (G.ok.lt _ h) G.t
  rwa [back] at this
theorem bases_mem {fm : List Nat} {t b : Nat} : b ∈ basesF fm t ↔ (b ^^^ t) ∈ fm ∧ ∀ c, (c ^^^ t) ∈ fm → bits b ≤ bits c := by
  unfold basesF nearF
  constructor
  · intro h
    obtain ⟨m, hm, rfl⟩ := List.mem_map.mp h
    obtain ⟨h1, h2⟩ := List.mem_filter.mp hm
    have h2 := of_decide_eq_true h2
    refine ⟨by rw [back]; exact h1, fun c hc => ?_⟩
    rw [h2]
    have h3 := (mn_ok (ns := fm.map fun n => bits (n ^^^ t)) (by simp; exact List.ne_nil_of_mem h1)).2 _ (List.mem_map.mpr ⟨_, hc, rfl⟩)
    rwa [back] at h3
  · rintro ⟨h1, h2⟩
    refine List.mem_map.mpr ⟨b ^^^ t, List.mem_filter.mpr ⟨h1, decide_eq_true ?_⟩, back b t⟩
    have hne : fm.map (fun n => bits (n ^^^ t)) ≠ [] := by simp; exact List.ne_nil_of_mem h1
    obtain ⟨h3, h4⟩ := mn_ok hne
    obtain ⟨m, hm, e⟩ := List.mem_map.mp h3
    have h5 := h4 _ (List.mem_map.mpr ⟨_, h1, rfl⟩)
    have h6 := h2 (m ^^^ t) (by rw [back]; exact hm)
    rw [back] at h5 ⊢
    omega
theorem rows_mem {fm : List Nat} {t b : Nat} : b ∈ rowsF fm t ↔ (b ^^^ t) ∈ fm ∧ ∀ c, (c ^^^ t) ∈ fm → bits c ≤ bits b := by
  unfold rowsF farF
  constructor
  · intro h
    obtain ⟨m, hm, rfl⟩ := List.mem_map.mp h
    obtain ⟨h1, h2⟩ := List.mem_filter.mp hm
    have h2 := of_decide_eq_true h2
    refine ⟨by rw [back]; exact h1, fun c hc => ?_⟩
    rw [h2]
    have h3 := (mx_ok (ns := fm.map fun n => bits (n ^^^ t)) (by simp; exact List.ne_nil_of_mem h1)).2 _ (List.mem_map.mpr ⟨_, hc, rfl⟩)
    rwa [back] at h3
  · rintro ⟨h1, h2⟩
    refine List.mem_map.mpr ⟨b ^^^ t, List.mem_filter.mpr ⟨h1, decide_eq_true ?_⟩, back b t⟩
    have hne : fm.map (fun n => bits (n ^^^ t)) ≠ [] := by simp; exact List.ne_nil_of_mem h1
    obtain ⟨h3, h4⟩ := mx_ok hne
    obtain ⟨m, hm, e⟩ := List.mem_map.mp h3
    have h5 := h4 _ (List.mem_map.mpr ⟨_, h1, rfl⟩)
    have h6 := h2 (m ^^^ t) (by rw [back]; exact hm)
    rw [back] at h5 ⊢
    omega
theorem rows_ne {fm : List Nat} {t : Nat} (h : fm ≠ []) : rowsF fm t ≠ [] := by
  have h2 : fm.map (fun m => bits (m ^^^ t)) ≠ [] := by simpa using h
  obtain ⟨m, hm, e⟩ := List.mem_map.mp (mx_ok h2).1
  exact List.ne_nil_of_mem (List.mem_map.mpr ⟨m, List.mem_filter.mpr ⟨hm, decide_eq_true e⟩, rfl⟩)
theorem compl_bits : ∀ size : Nat, size < 6 → ∀ a : Nat, a < 1 <<< size → bits (a ^^^ ((1 <<< size) - 1)) + bits a = size := by decide +kernel
theorem whole_lt (size : Nat) : (1 <<< size) - 1 < 1 <<< size := by
  have : 1 ≤ 1 <<< size := by rw [Nat.one_shiftLeft]; exact Nat.one_le_two_pow
  omega
theorem sub_tb {b f : Nat} (h : b &&& f = b) {x : Nat} (hx : b.testBit x = true) : f.testBit x = true := by
  rw [← h, Nat.testBit_and, Bool.and_eq_true] at hx
  exact hx.2
theorem whole_tb {size x : Nat} (h : x < size) : ((1 <<< size) - 1).testBit x = true := by
  rw [Nat.one_shiftLeft, Nat.testBit_two_pow_sub_one]; simp [h]
variable {size : Nat} {fm : List Nat} {t : Nat}
/-- each lot is between a nearest and a farthest one -/
theorem Gat.holds (G : Gat size fm t) {f : Nat} (hf : (f ^^^ t) ∈ fm) : ∃ b ∈ basesF fm t, b &&& f = b := by
  obtain ⟨b, h1, h2, h3⟩ := holds_least G.exb hf
  exact ⟨b, bases_mem.mpr ⟨h1, h2⟩, h3⟩
theorem Gat.held (G : Gat size fm t) {f : Nat} (hf : (f ^^^ t) ∈ fm) : ∃ r ∈ rowsF fm t, f &&& r = f := by
  have hz := G.ok.s5
  have hw := whole_lt size
  have G2 := EXB.turn G.exb (t := (1 <<< size) - 1) (sh32 hz hw)
  obtain ⟨b, h1, h2, h3⟩ := holds_least G2 (f := f ^^^ ((1 <<< size) - 1)) (by show ((f ^^^ _) ^^^ _) ^^^ t ∈ fm; rw [back]; exact hf)
  refine ⟨b ^^^ ((1 <<< size) - 1), rows_mem.mpr ⟨h1, fun c hc => ?_⟩, ?_⟩
  · have h4 := h2 (c ^^^ ((1 <<< size) - 1)) (by show ((c ^^^ _) ^^^ _) ^^^ t ∈ fm; rw [back]; exact hc)
    have h5 := compl_bits size (by omega) c (G.lt hc)
    have h6 := G.lt h1
    have h7 := compl_bits size (by omega) _ h6
    rw [back] at h7
    omega
  · apply Nat.eq_of_testBit_eq
    intro x
    rw [Nat.testBit_and, Nat.testBit_xor]
    cases hx : f.testBit x with
    | false => rfl
    | true =>
      have hxs : x < size := tb_lt (by rw [← Nat.one_shiftLeft]; exact G.lt hf) hx
      rw [whole_tb hxs]
      cases hb : b.testBit x with
      | false => rfl
      | true =>
        have := sub_tb h3 hb
        rw [Nat.testBit_xor, hx, whole_tb hxs] at this
        cases this
/-! ### one thing more -/
def restL (N x : Nat) : List Nat := (List.range 5).filter fun y => !N.testBit y && !decide (y = x)
theorem bits_split : ∀ b : Nat, b < 32 → ∀ N : Nat, N < 32 → ∀ x : Nat, x < 5 → N.testBit x = false → bits b = bits (b &&& N) + (if b.testBit x then 1 else 0) + cnt b (restL N x) := by decide +kernel
theorem bits_more : ∀ b : Nat, b < 32 → ∀ N : Nat, N < 32 → ∀ x : Nat, x < 5 → N.testBit x = false → bits (b &&& (N ||| (1 <<< x))) = bits (b &&& N) + (if b.testBit x then 1 else 0) := by decide +kernel
theorem bits_rest : ∀ r : Nat, r < 32 → ∀ N : Nat, N < 32 → bits ((r ^^^ N) &&& N) + bits (r &&& N) = bits N := by decide +kernel
theorem bits_mono : ∀ a : Nat, a < 32 → ∀ b : Nat, b < 32 → a &&& b = a → bits a ≤ bits b := by decide +kernel
theorem cnt_mono {b f : Nat} (h : b &&& f = b) : ∀ M : List Nat, cnt b M ≤ cnt f M
  | [] => Nat.le_refl _
  | m :: M => by
    rw [cnt_cons, cnt_cons]
    have := cnt_mono h M
    cases hb : b.testBit m with
    | false => rw [if_neg Bool.false_ne_true]; omega
    | true =>
      have hf := sub_tb h hb
      rw [if_pos hf, if_pos rfl]; omega
theorem cnt_xor {p N : Nat} : ∀ {M : List Nat}, (∀ m ∈ M, N.testBit m = false) → cnt (p ^^^ N) M = cnt p M
  | [], _ => rfl
  | m :: M, h => by
    rw [cnt_cons, cnt_cons, cnt_xor (fun z hz => h z (List.mem_cons_of_mem _ hz)), Nat.testBit_xor, h m List.mem_cons_self, Bool.xor_false]
theorem rest_ok {N x : Nat} : (restL N x).Nodup ∧ ∀ m ∈ restL N x, N.testBit m = false ∧ m ≠ x := by
  refine ⟨List.Pairwise.filter _ (List.pairwise_lt_range.imp fun h => by omega), fun m hm => ?_⟩
  have := (List.mem_filter.mp hm).2
  rw [Bool.and_eq_true, Bool.not_eq_true', Bool.not_eq_true', decide_eq_false_iff_not] at this
  exact this
def fkOf (fm : List Nat) (t u : Nat) : Nat := mx ((rowsF fm t).map fun r => bits (r &&& u))
theorem rk_ok (h : fm ≠ []) (u : Nat) : (∃ b ∈ basesF fm t, bits (b &&& u) = rkOf fm t u) ∧ ∀ b ∈ basesF fm t, bits (b &&& u) ≤ rkOf fm t u := by
  have hne : (basesF fm t).map (fun b => bits (b &&& u)) ≠ [] := by simpa using bases_ne h
  obtain ⟨h1, h2⟩ := mx_ok hne
  obtain ⟨b, hb, e⟩ := List.mem_map.mp h1
  exact ⟨⟨b, hb, e⟩, fun b hb => h2 _ (List.mem_map.mpr ⟨b, hb, rfl⟩)⟩
theorem fk_ok (h : fm ≠ []) (u : Nat) : (∃ b ∈ rowsF fm t, bits (b &&& u) = fkOf fm t u) ∧ ∀ b ∈ rowsF fm t, bits (b &&& u) ≤ fkOf fm t u := by
  have hne : (rowsF fm t).map (fun b => bits (b &&& u)) ≠ [] := by simpa using rows_ne h
  obtain ⟨h1, h2⟩ := mx_ok hne
  obtain ⟨b, hb, e⟩ := List.mem_map.mp h1
  exact ⟨⟨b, hb, e⟩, fun b hb => h2 _ (List.mem_map.mpr ⟨b, hb, rfl⟩)⟩
theorem Gat.step (G : Gat size fm t) {N x : Nat} (hN : N < 1 <<< size) (hx : x < size) :
    rkOf fm t N ≤ rkOf fm t (N ||| (1 <<< x)) ∧ rkOf fm t (N ||| (1 <<< x)) ≤ rkOf fm t N + 1 ∧ rkOf fm t (N ||| (1 <<< x)) + fkOf fm t N ≤ rkOf fm t N + fkOf fm t (N ||| (1 <<< x)) := by
  have hz := G.ok.s5
  have hN32 := sh32 hz hN
  have hx5 : x < 5 := by omega
  obtain ⟨⟨b, hb, eb⟩, hb2⟩ := rk_ok (t := t) G.ok.ne N
  obtain ⟨⟨c, hc, ec⟩, hc2⟩ := rk_ok (t := t) G.ok.ne (N ||| (1 <<< x))
  obtain ⟨⟨r, hr, er⟩, hr2⟩ := fk_ok (t := t) G.ok.ne N
  obtain ⟨⟨q, hq, eq⟩, hq2⟩ := fk_ok (t := t) G.ok.ne (N ||| (1 <<< x))
  have lt : ∀ {b}, (b ^^^ t) ∈ fm → b < 32 := fun h => sh32 hz (G.lt h)
  have b32 := lt (bases_mem.mp hb).1
  have c32 := lt (bases_mem.mp hc).1
  have r32 := lt (rows_mem.mp hr).1
  cases hNx : N.testBit x with
  | true =>
    have e : N ||| (1 <<< x) = N := by
      apply Nat.eq_of_testBit_eq
      intro j
      rw [Nat.testBit_or, tb_sh]
      by_cases h : x = j
      · subst h; rw [hNx]; rfl
      · simp [h]
    rw [e]; omega
  | false =>
    have m1 := bits_more b b32 N hN32 x hx5 hNx
    have m2 := bits_more c c32 N hN32 x hx5 hNx
    have m3 := bits_more r r32 N hN32 x hx5 hNx
    have k1 := hc2 b hb
    have k2 := hb2 c hc
    have k3 := hq2 r hr
    have i1 : (if b.testBit x then 1 else 0) ≤ 1 := by split <;> omega
    have i2 : (if c.testBit x then 1 else 0) ≤ 1 := by split <;> omega
    refine ⟨by omega, by omega, ?_⟩
    refine Nat.le_of_not_lt fun hlt => ?_
    -- then x raises what nearest lots have, not what farthest ones have
    have up : rkOf fm t (N ||| (1 <<< x)) = rkOf fm t N + 1 := by omega
    have same : fkOf fm t (N ||| (1 <<< x)) = fkOf fm t N := by omega
    have D := G.exb
    have DN := EXB.turn D hN32
    have no : LeastNo (fun n => ((n ^^^ N) ^^^ t) ∈ fm) N x := by
      intro g hg hmin
      cases hgx : g.testBit x with
      | false => rfl
      | true =>
        exfalso
        obtain ⟨r1, h1, h2⟩ := G.held hg
        have g32 := lt hg
        have r132 := lt (rows_mem.mp h1).1
        have e1 := bits_rest (g ^^^ N) g32 N hN32
        rw [back] at e1
        have e2 := hmin (r ^^^ N) (by show ((r ^^^ N) ^^^ N) ^^^ t ∈ fm; rw [back]; exact (rows_mem.mp hr).1)
        have e3 := bits_rest r r32 N hN32
        have gx : (g ^^^ N).testBit x = true := by rw [Nat.testBit_xor, hgx, hNx]; rfl
        have e4 := bits_more (g ^^^ N) g32 N hN32 x hx5 hNx
        rw [gx, if_pos rfl] at e4
        have e5 : bits ((g ^^^ N) &&& (N ||| (1 <<< x))) ≤ bits (r1 &&& (N ||| (1 <<< x))) := by
          refine bits_mono _ (and32 g32) _ (and32 r132) ?_
          apply Nat.eq_of_testBit_eq
          intro j
          simp only [Nat.testBit_and]
          cases hj : (g ^^^ N).testBit j with
          | false => simp
          | true => rw [sub_tb h2 hj]; simp
        have e6 := hq2 r1 h1
        omega
    obtain ⟨p, hp, hpx, hpm⟩ := least_without hN32 hNx (restL N x) rest_ok.1 rest_ok.2 _ DN ⟨c ^^^ N, by show ((c ^^^ N) ^^^ N) ^^^ t ∈ fm; rw [back]; exact (bases_mem.mp hc).1⟩ no
    have xr : ∀ z, cnt (z ^^^ N) (restL N x) = cnt z (restL N x) := fun z => cnt_xor fun m hm => (rest_ok.2 m hm).1
    obtain ⟨b1, h1, h2⟩ := G.holds hp
    have b132 := lt (bases_mem.mp h1).1
    have b1x : b1.testBit x = false := by
      cases e : b1.testBit x with
      | false => rfl
      | true =>
        have := sub_tb h2 e
        rw [Nat.testBit_xor, hpx, hNx] at this
        cases this
    have s1 := bits_split b1 b132 N hN32 x hx5 hNx
    have s2 := bits_split c c32 N hN32 x hx5 hNx
    rw [b1x] at s1
    have q1 := cnt_mono h2 (restL N x)
    rw [xr] at q1
    have q2 := hpm (c ^^^ N) (by show ((c ^^^ N) ^^^ N) ^^^ t ∈ fm; rw [back]; exact (bases_mem.mp hc).1)
    rw [xr] at q2
    have q3 := (bases_mem.mp h1).2 c (bases_mem.mp hc).1
    have q4 := (bases_mem.mp hc).2 b1 (bases_mem.mp h1).1
    have q5 := hb2 b1 h1
    simp at s1
    omega
end W7
end
section
namespace W7
open PySem PySem.Spec PyProof.Rows L2 L3 Evl
open C8 (Cal pe_c Mak pe_mk Met pe_mt pe_mt0)
theorem sortLots_at {K : PySem.W.Frag} {H : Hp} {rs : List V} {L : List (List Nat)} (hL : Lots H rs L) : ∃ k : V → List Int, (∀ x ∈ rs, TupN K H x (k x)) ∧ ∀ (ys : List V) (p : Addr), ys.Perm rs → ys.Pairwise (fun x y => k x ≤ k y) → H p = none → ∃ M : List (List Nat), M.Perm L ∧ M.Pairwise lexLe ∧ Lots (upd H p (.lst ys)) ys M := by
  have ht : ∀ r ∈ rs, TupV H r (lotOf H r) := fun r hr => by
    obtain ⟨ns, _, h3⟩ := hL.mem hr
    rw [h3.lotOf]; exact h3
  refine ⟨fun r => (lotOf H r).map fun n => ((n : Nat) : Int), fun r hr => ?_, fun ys p h3 h4 hl => ⟨ys.map (lotOf H), ?_, ?_, ?_⟩⟩
  · obtain ⟨t, rfl, h3⟩ := ht r hr
    refine ⟨t, rfl, st_of ?_⟩
    rw [h3, List.map_map]; rfl
  · rw [← hL.eq]; exact h3.map _
  · rw [List.pairwise_map]; exact h4
  · exact (lots_of fun r hr => ht r (h3.mem_iff.mp hr)).ex (Ex.new hl)
def keyL (m : Nat) : List Key := (lotF m).map fun n => Sum.inl ((n : Nat) : Int)
theorem key_nv (m : Nat) : (keyL m).map kV = nv (lotF m) := by
  unfold keyL nv
  rw [List.map_map]; rfl
theorem key_inj {m n : Nat} (hm : m < 64) (hn : n < 64) (h : keyL m = keyL n) : m = n := by
  have h2 : nv (lotF m) = nv (lotF n) := by rw [← key_nv, ← key_nv, h]
  have := congrArg orF (nv_inj h2)
  rwa [orF_lot m hm, orF_lot n hn] at this
def kvF (ms : List Nat) : List (List Key × V) := ms.map fun m => (keyL m, V.bl true)
theorem kv_none {ms : List Nat} {m : Nat} (h64 : ∀ x ∈ ms, x < 64) (hm : m < 64) (h : m ∉ ms) : valV (kvF ms) (keyL m) = none := by
  unfold valV kvF
  rw [List.find?_map, Option.map_map, Option.map_eq_none_iff, List.find?_eq_none]
  intro x hx
  simp only [Function.comp, decide_eq_true_eq]
  intro e
  exact h (key_inj (h64 x hx) hm e ▸ hx)
theorem kv_put {ms : List Nat} {m : Nat} (h64 : ∀ x ∈ ms, x < 64) (hm : m < 64) (h : m ∉ ms) : putK (kvF ms) (keyL m) (V.bl true) = kvF (ms ++ [m]) := by
  unfold putK
  rw [if_neg]
  · unfold kvF
    rw [List.map_append]; rfl
  · rw [List.any_eq_true]
    rintro ⟨kv, hkv, e⟩
    obtain ⟨x, hx, rfl⟩ := List.mem_map.mp hkv
    exact h (key_inj (h64 x hx) hm (of_decide_eq_true e) ▸ hx)
theorem keys_lots {H : Hp} {ms : List Nat} {bs : List Addr} (h : IsKeys H (kvF ms) bs) : Lots H (bs.map V.ref) (ms.map lotF) := by
  have h2 : Paired (fun (p : List Key × V) b => H b = some (.tup (p.1.map kV))) (kvF ms) bs := h
  refine ⟨by rw [List.length_map, List.length_map, ← h2.length]; unfold kvF; rw [List.length_map], fun i r ns a b => ?_⟩
  clear h
  induction ms generalizing bs i with
  | nil => simp at b
  | cons m ms ih =>
    cases h2 with
    | cons r1 rr =>
      cases i with
      | zero =>
        simp at a b
        subst a b
        refine ⟨_, rfl, ?_⟩
        rw [r1, key_nv]
      | succ i => exact ih rr i a b
theorem upd_lots {H : Hp} {p : Addr} {o : HO} {rs : List V} {L : List (List Nat)} (h : Lots H rs L) (hp : H p = none) : Lots (upd H p o) rs L := h.ex (Ex.new hp)
section
variable {P : Program} {w : World} {K : PySem.W.Frag} {mg : Str → Option Value} {base : Heap} {f : Addr} {fd : FuncData} {CF : Addr}
def spSize : Sp := fun vs H Q _ => ∃ size : Nat, vs = [.int size] ∧ 1 ≤ size ∧ size ≤ 10 ∧ RetV (.int size) H Q
theorem sc_check_family_size : FnScope ["size"] ["size"] (defScope (top 50)) := ⟨rfl, rfl, rfl, by decide +kernel, rfl, by decide +kernel, by decide +kernel⟩
theorem c_check_family_size (F : FnP K "check_family_size" (top 50) f fd) (g : mg "check_family_size" = some (.ref f)) (B : Bi mg) (c_is_int : Cal P w K mg base 1 "is_int" spIsInt []) : Cal P w K mg base 2 "check_family_size" spSize [] := by
  refine mkCal F g sc_check_family_size (fun _ _ _ _ _ _ us hl => match us, hl with | [_], _ => rfl) (fun vs H Q E h => ?_) (fun cdv A outer s H vs Q E hr h => ?_)
  · obtain ⟨size, rfl, _⟩ := h
    rfl
  · obtain ⟨size, rfl, h1, h10, q⟩ := h
    refine ⟨_, (pss_cons (ps_if (PW.pt (pw_or (pt_not (pt_val (pe_c c_is_int hr (by decide) rfl (pa_cons (pv 0) pa_nil)))) (pw_or1 (pt_not (pt_chain on_le on_le (pe_nat 1 pe_int) (pv 0) (pe_nat 10 pe_int)))))) (pss_one ps_never) pss_nil) (pss_one (ps_ret (pv 0)))), ?_⟩
    refine q_when (b := !true || !(decide (1 ≤ size) && decide (size ≤ 10))) (et_or (et_not (et_B (ev_call (ea_cons (ev_v 0) ea_nil) fun H2 e2 Q2 q2 E2 => ⟨_, rfl, q2⟩))) fun _ => et_not (et_test (ev_chainN (g := fun a b => decide (a ≤ b)) (g' := fun a b => decide (a ≤ b)) ev_c (ev_v 0) ev_c))) (fun hb => absurd hb (by simp [h1, h10])) (fun _ H1 e1 => ?_)
    exact s_ret (ev_v 0) fun H2 e2 => q H2 (e1.trans e2)
def spRows : Sp := fun vs H Q _ => ∃ (size : Nat) (p : Addr) (rs : List V) (ms : List Nat), vs = [.int size, .ref p] ∧ size ≤ 5 ∧ H p = some (.lst rs) ∧ Lots H rs (ms.map lotF) ∧ ms.Nodup ∧ ms ≠ [] ∧ (∀ m ∈ ms, m < 1 <<< size) ∧ ms.length ≤ 64 ∧ RetLots (ms.map lotF) H Q
theorem sc_checked_rows : FnScope ["size", "lots", "rows", "place", "lot", "row"] ["size", "lots"] (defScope (top 51)) := ⟨rfl, rfl, rfl, by decide +kernel, rfl, by decide +kernel, by decide +kernel⟩
theorem c_checked_rows (F : FnP K "checked_rows" (top 51) f fd) (g : mg "checked_rows" = some (.ref f)) (B : Bi mg) (c_is_list : Cal P w K mg base 1 "is_list" spIsList []) (c_is_lot : Cal P w K mg base 3 "is_lot" spIsLot []) : Cal P w K mg base 4 "checked_rows" spRows [] := by
  refine mkCal F g sc_checked_rows (fun _ _ _ _ _ _ us hl => match us, hl with | [_, _], _ => rfl) (fun vs H Q E h => ?_) (fun cdv A outer s H vs Q E hr h => ?_)
  · obtain ⟨size, p, rs, ms, rfl, _⟩ := h
    rfl
  · obtain ⟨size, p, rs, ms, rfl, hz, hp, hL, hnd, hne, hlt, hlen, q⟩ := h
    have h64 := pow64 (n := size) (by omega)
    have hlt64 : ∀ m ∈ ms, m < 64 := fun m hm => Nat.lt_of_lt_of_le (hlt m hm) h64
    have hrl : rs.length = ms.length := by rw [hL.1, List.length_map]
    have hpos : 0 < ms.length := List.length_pos_iff.mpr hne
    refine ⟨_, (pss_cons (ps_if (pt_not (pt_val (pe_c c_is_list hr (by decide) rfl (pa_cons (pv 1) pa_nil)))) (pss_one ps_never) pss_nil) (pss_cons (ps_if (pt_cmpR on_eq (pe_callB call_len_seq (by rfl) B.len (by decide +kernel) (pa_cons (pv 1) pa_nil)) (pe_nat 0 pe_int) (nomark _)) (pss_one ps_never) pss_nil) (pss_cons (ps_set (i := 2) sc_checked_rows.nd rfl (by first | exact Or.inl rfl | exact Or.inr rfl) pe_dnewT) (pss_cons (ps_for PassesOwn.never rfl (pi_enumA (by rfl) B.enumerate (pa_cons (pv 1) pa_nil)) (pg_tup rfl (pgs_cons (pg_name (i := 3) sc_checked_rows.nd rfl (by first | exact Or.inl rfl | exact Or.inr rfl)) (pgs_cons (pg_name (i := 4) sc_checked_rows.nd rfl (by first | exact Or.inl rfl | exact Or.inr rfl)) pgs_nil))) (pss_cons (ps_set (i := 5) sc_checked_rows.nd rfl (by first | exact Or.inl rfl | exact Or.inr rfl) (pe_ifExp (pt_val (pe_c c_is_lot hr (by decide) rfl (pa_cons (pv 4) (pa_cons (pv 0) pa_nil)))) (pe_callTy call_tuple_of (by rfl) B.tuple (by decide +kernel) (pa_cons (pe_callB cr_sortedA (by rfl) B.sorted (by decide +kernel) (pa_cons (pv 4) pa_nil)) pa_nil)) pe_non)) (pss_cons (ps_if (PW.pt (pw_or (pt_cmp (pc_isN (pv 5))) (pw_or1 (pt_cmp (pc_din (hu_of hr) (pv 5) (pv 2)))))) (pss_one ps_never) pss_nil) (pss_one (ps_dput (hu_of hr) (pv 2) (pv 5) pe_bl rfl))))) (pss_one (ps_ret (pe_callTy (call_list_dT rfl) (by rfl) B.list (by decide +kernel) (pa_cons (pv 2) pa_nil)))))))), ?_⟩
    refine ⟨.ref p, rfl, p, rs, rfl, .inl hp, fun H1 e1 => ⟨true, rfl, ?_⟩⟩
    refine iteF ?_
    refine ⟨.ref p, rfl, p, rs, rfl, .inl (sq_of (e1 _ _ hp)), rs.length, 0, rfl, rfl, _, rfl, ?_⟩
    refine ite2 (fun hb => absurd (of_decide_eq_true hb) (by omega)) (fun _ => ?_)
    intro d hd
    have e12 := e1
    have hdH := fresh_back e12 hd
    have ed := Ex.new (o := .dT []) hd
    refine ⟨.ref p, rfl, p, rs, rfl, .inl ⟨sq_of (ed _ _ (e12 _ _ hp)), for_enumL (fun i σ H' => Ex H H' ∧ H' d = some (.dT (kvF (ms.take i))) ∧ ∃ v3 v4 v5, σ = [some (.int size), some (.ref p), some (.ref d), v3, v4, v5]) ⟨e12.trans ed, upd_same, _, _, _, rfl⟩ (fun i σ H' _ h => sq_of (h.1 _ _ hp)) ?_ ?_⟩⟩
    · rintro i x σ H' T hx ⟨e0, h0, v3, v4, v5, rfl⟩ hT
      have hi : i < ms.length := by rw [← hrl]; exact (List.getElem?_eq_some_iff.mp hx).1
      have hn : ms[i]? = some ms[i] := List.getElem?_eq_some_iff.mpr ⟨hi, rfl⟩
      have eT := Ex.new (o := .tup [.int (i : Nat), x]) hT
      obtain ⟨b, rfl, hb⟩ := ((hL.2 i x (lotF ms[i]) hx (by rw [List.getElem?_map, hn]; rfl)).ex e0).ex eT
      have hm := List.getElem_mem hi
      have hnin : ms[i] ∉ ms.take i := fun h => by
        obtain ⟨j, hj, e2⟩ := List.getElem_of_mem h
        rw [List.length_take] at hj
        rw [List.getElem_take] at e2
        exact (List.pairwise_iff_getElem.mp hnd) j i (by omega) hi (by omega) e2
      have htk : ms.take (i + 1) = ms.take i ++ [ms[i]] := by rw [List.take_add_one, hn]; rfl
      generalize ms[i] = m at hb hm hnin htk hn
      have lo := lot_ok (hlt m hm) (by omega)
      refine ⟨T, [.int (i : Nat), .ref b], rfl, st_of upd_same, rfl, _, _, rfl, _, _, rfl, rfl, ?_⟩
      have e3 := e0.trans eT
      have h3 := eT _ _ h0
      generalize upd H' T (.tup [.int (i : Nat), .ref b]) = H3 at e3 h3 hb
      refine ⟨.ref b, rfl, .int size, rfl, b, lotF m, size, rfl, .inr hb, lo.1, fun H4 e4 => ⟨true, rfl, ?_⟩⟩
      refine ⟨.ref b, rfl, b, inI m, rfl, .inr (st_of (by rw [e4 _ _ hb]; unfold nv inI; rw [List.map_map]; rfl)), fun is l i3 i4 hl => ⟨l, is.map V.int, rfl, .inl ⟨sq_of upd_same, fun r hr => ?_⟩⟩⟩
      have his : is.map V.int = nv (lotF m) := by
        obtain ⟨ns, rfl⟩ : ∃ ns : List Nat, is = ns.map fun n => ((n : Nat) : Int) := by
          refine ⟨is.map Int.toNat, ?_⟩
          rw [List.map_map]
          have : ∀ i ∈ is, ((fun n => ((n : Nat) : Int)) ∘ Int.toNat) i = id i := fun i hi => by
            obtain ⟨n, _, rfl⟩ := List.mem_map.mp (i3.mem_iff.mp hi)
            rfl
          rw [List.map_congr_left this, List.map_id]
        have h5 : ns.Perm (lotF m) := by
          have := i3.map Int.toNat
          unfold inI at this
          simpa [List.map_map, Function.comp_def] using this
        have h6 : ns.Pairwise (· ≤ ·) := by
          rw [List.pairwise_map] at i4
          exact i4.imp fun h => by omega
        rw [sorted_eq h5 h6 lo.2]
        unfold nv; rw [List.map_map]; rfl
      rw [his] at hr ⊢
      have e5 := e4.trans ((Ex.new (o := .lst (nv (lotF m))) hl).trans (Ex.new (o := .tup (nv (lotF m))) hr))
      have hr5 : upd (upd H4 l (.lst (nv (lotF m)))) r (.tup (nv (lotF m))) r = some (.tup (nv (lotF m))) := upd_same
      generalize upd (upd H4 l (.lst (nv (lotF m)))) r (.tup (nv (lotF m))) = H5 at e5 hr5
      have h5 := e5 _ _ h3
      have hkey : H5 r = some (.tup ((keyL m).map kV)) := by rw [key_nv]; exact hr5
      have hv := kv_none (ms := ms.take i) (fun x hx => hlt64 x (List.mem_of_mem_take hx)) (hlt64 m hm) hnin
      have hput := kv_put (ms := ms.take i) (fun x hx => hlt64 x (List.mem_of_mem_take hx)) (hlt64 m hm) hnin
      refine ⟨.ref r, rfl, false, rfl, ?_⟩
      refine ⟨.ref r, rfl, .ref d, rfl, d, _, rfl, .inr ⟨kvF (ms.take i), keyL m, r, .inl h5, rfl, hkey, rfl⟩, ?_⟩
      rw [hv]
      refine ⟨false, rfl, ?_⟩
      refine ⟨.ref d, rfl, .ref r, rfl, d, _, rfl, .inr ⟨kvF (ms.take i), keyL m, r, h5, rfl, hkey, ?_, rfl⟩, ?_⟩
      · unfold kvF
        rw [List.length_map, List.length_take]
        exact sz_lt (by omega)
      · refine ⟨Ex.mut (e3.trans e5) hdH, ?_, _, _, _, rfl⟩
        rw [upd_same, hput, ← htk]
    · rintro σ H' ⟨e0, h0, v3, v4, v5, rfl⟩
      rw [hrl, List.take_length] at h0
      refine ⟨.ref d, rfl, d, kvF ms, rfl, .inl h0, fun l bs hl hk => ?_⟩
      exact q l (bs.map V.ref) _ (fresh_back e0 hl) (e0.trans (Ex.new hl)) upd_same (upd_lots (keys_lots hk) hl)
/-- the dict of a family's lots -/
def FamIn (H : Hp) (CF a : Addr) (fm : List Nat) : Prop := ∃ dx fs d, H a = some (.ins CF dx fs) ∧ fs.lookup ("_inside" : Str) = some (.ref d) ∧ fs.lookup ("has" : Str) = none ∧ H d = some (.dT (dLots (.bl true) (fm.map keyL)))
theorem FamIn.ex {H H' : Hp} {CF a : Addr} {fm : List Nat} (h : FamIn H CF a fm) (e : Ex H H') : FamIn H' CF a fm := by
  obtain ⟨dx, fs, d, h1, h2, h3, h4⟩ := h
  exact ⟨dx, fs, d, e _ _ h1, h2, h3, e _ _ h4⟩
def spFamI (CF : Addr) : Sp := fun vs H Q _ => ∃ (x p dx : Addr) (size : Nat) (rs : List V) (ms : List Nat), vs = [.ref x, .int size, .ref p] ∧ H x = some (.ins CF dx []) ∧ 1 ≤ size ∧ size ≤ 5 ∧ H p = some (.lst rs) ∧ Lots H rs (ms.map lotF) ∧ ms.Nodup ∧ ms ≠ [] ∧ (∀ m ∈ ms, m < 1 <<< size) ∧ ms.length ≤ 64 ∧
  ∀ H' fm, XB x H H' → fm.Perm ms → (fm.map lotF).Pairwise lexLe → FamAt H' CF x size fm → FamIn H' CF x fm → Q .non H'
theorem sc_Family___init : FnScope ["self", "size", "lots", "lot"] ["self", "size", "lots"] (defScope (inClass (top 52) 0)) := ⟨rfl, rfl, rfl, by decide +kernel, rfl, by decide +kernel, by decide +kernel⟩
theorem m_Family (C : FC K CF) (M : Mk K CF f) (hm : mg "Family" = some (.ref CF)) (F : FunD K "__init__" "Family.__init__" (defArgs (inClass (top 52) 0)) (defBody (inClass (top 52) 0)) (defScope (inClass (top 52) 0)) [] [] f fd) (B : Bi mg) (c_check_family_size : Cal P w K mg base 2 "check_family_size" spSize []) (c_checked_rows : Cal P w K mg base 4 "checked_rows" spRows []) : Mak P w K mg base 5 "Family" CF (spFamI CF) [] := by
  refine mkMak M hm F sc_Family___init (fun _ _ _ _ _ _ us hl => match us, hl with | [_, _, _], _ => rfl) (fun vs H Q E h => ?_) (fun cdv A outer s H vs Q E hr h => ?_)
  · obtain ⟨x, p, dx, size, rs, ms, rfl, _⟩ := h
    rfl
  · obtain ⟨x, p, dx, size, rs, ms, rfl, hx, h1, h5, hp, hL, hnd, hne, hlt, hlen, q⟩ := h
    have h64 := pow64 (n := size) (by omega)
    refine ⟨_, (pss_cons (ps_fld (pv 0) (pe_c c_check_family_size hr (by decide) rfl (pa_cons (pv 1) pa_nil)) rfl) (pss_cons (ps_fld (pv 0) (pe_callTy call_tuple_of (by rfl) B.tuple (by decide +kernel) (pa_cons (pe_callB (cr_sortLots hr.units) (by rfl) B.sorted (by decide +kernel) (pa_cons (pe_c c_checked_rows hr (by decide) rfl (pa_cons (pv 1) (pa_cons (pv 2) pa_nil))) pa_nil)) pa_nil)) rfl) (pss_one (ps_fld (pv 0) (pe_dLots rfl (Nat.lt_of_succ_lt (hu_of hr)) (blkOk_by (own := [("lot", 3)]) (N := ["self", "size", "lots", "lot"]) (sc := defScope (inClass (top 52) 0)) (by decide +kernel)) (pe_fld (pv 0) rfl)) rfl)))), ?_⟩
    refine s_fldV (D := { nx := _, rt := _, bk := _, ct := _ }) (ev_call (ea_cons (ev_v 1) ea_nil) fun H2 e2 Q2 q2 E2 => ⟨size, rfl, h1, by omega, q2⟩) rfl hx C.cls C.a1 (by decide) fun H1 e1 => ?_
    have hx1 := e1 _ _ hx
    have hpx : p ≠ x := fun e => by rw [e, hx] at hp; cases hp
    have b2 : XB x H1 (upd H1 x (.ins CF dx (putF "size" (.int size) []))) := fun b o n h => by rw [upd_ne n]; exact h
    have hx2 : upd H1 x (.ins CF dx (putF "size" (.int size) [])) x = some (.ins CF dx (putF "size" (.int size) [])) := upd_same
    generalize upd H1 x (.ins CF dx (putF "size" (.int size) [])) = H2 at b2 hx2
    have p2 := b2 _ _ hpx (e1 _ _ hp)
    have LL2 := (hL.ex e1).xb hx1 b2
    refine ⟨.int size, rfl, .ref p, rfl, size, p, rs, ms, rfl, h5, p2, LL2, hnd, hne, hlt, hlen, fun l rs3 H3 hl e3 h3 L3 => ?_⟩
    obtain ⟨k, k1, k2⟩ := sortLots_at (K := K) L3
    refine ⟨l, rs3, k, rfl, sq_of h3, k1, fun rs4 q4 y1 y2 hq4 => ?_⟩
    obtain ⟨M, m1, m2, L4⟩ := k2 rs4 q4 y1 y2 hq4
    have e4 := Ex.new (o := .lst rs4) hq4
    have h4 : upd H3 q4 (.lst rs4) q4 = some (.lst rs4) := upd_same
    generalize upd H3 q4 (.lst rs4) = H4 at e4 h4 L4
    obtain ⟨fm, rfl, hfm⟩ := perm_lots m1 fun b hb => Nat.lt_of_lt_of_le (hlt b hb) h64
    refine ⟨q4, rs4, rfl, .inl ⟨sq_of h4, fun tl htl => ?_⟩⟩
    have e5 := Ex.new (o := .tup rs4) htl
    have hx5 := e5 _ _ (e4 _ _ (e3 _ _ hx2))
    have L5 := L4.ex e5
    have t5 : upd H4 tl (.tup rs4) tl = some (.tup rs4) := upd_same
    have htx : tl ≠ x := fun e => by rw [e, e4 _ _ (e3 _ _ hx2)] at htl; cases htl
    generalize upd H4 tl (.tup rs4) = H5 at e5 hx5 L5 t5
    refine ⟨.ref x, rfl, x, CF, dx, _, rfl, hx5, C.cls, C.a2, by show 1 < 1000; decide, ?_⟩
    have b6 : XB x H5 (upd H5 x (.ins CF dx (putF "lots" (.ref tl) (putF "size" (.int size) [])))) := fun b o n h => by rw [upd_ne n]; exact h
    have hx6 : upd H5 x (.ins CF dx (putF "lots" (.ref tl) (putF "size" (.int size) []))) x = some (.ins CF dx (putF "lots" (.ref tl) (putF "size" (.int size) []))) := upd_same
    generalize upd H5 x (.ins CF dx (putF "lots" (.ref tl) (putF "size" (.int size) []))) = H6 at b6 hx6
    have t6 := b6 _ _ htx t5
    have L6 := L5.xb hx5 b6
    have ka : KeysAt H6 rs4 (fm.map keyL) := by
      refine ⟨by rw [L6.1, List.length_map, List.length_map], fun i y hy => ?_⟩
      have hi : i < fm.length := by have := L6.1; rw [List.length_map] at this; rw [← this]; exact (List.getElem?_eq_some_iff.mp hy).1
      have hn : fm[i]? = some fm[i] := List.getElem?_eq_some_iff.mpr ⟨hi, rfl⟩
      obtain ⟨b, rfl, hb⟩ := L6.2 i y (lotF fm[i]) hy (by rw [List.getElem?_map, hn]; rfl)
      exact ⟨b, keyL fm[i], rfl, by rw [List.getElem?_map, hn]; rfl, by rw [key_nv]; exact hb⟩
    have hl4 : rs4.length < sizeLine := by
      have := L6.1
      rw [List.length_map, hfm.length_eq] at this
      exact sz_lt (by omega)
    refine ⟨.ref x, rfl, x, CF, dx, _, .ref tl, rfl, hx6, C.cls, C.a2, rfl, tl, rs4, fm.map keyL, rfl, st_of t6, ka, hl4, fun D hD => ⟨.ref x, rfl, x, CF, dx, _, rfl, Ex.new hD _ _ hx6, C.cls, C.a3, by show 2 < 1000; decide, ?_⟩⟩
    have e7 := Ex.new (o := .dT (dLots (.bl true) (fm.map keyL))) hD
    have b8 : XB x (upd H6 D (.dT (dLots (.bl true) (fm.map keyL)))) (upd (upd H6 D (.dT (dLots (.bl true) (fm.map keyL)))) x (.ins CF dx (putF "_inside" (.ref D) (putF "lots" (.ref tl) (putF "size" (.int size) []))))) := fun b o n h => by rw [upd_ne n]; exact h
    refine q _ fm (fun b o n h => b8 _ _ n (e7 _ _ (b6 _ _ n (e5 _ _ (e4 _ _ (e3 _ _ (b2 _ _ n (e1 _ _ h)))))))) hfm m2 ⟨dx, _, tl, rs4, upd_same, rfl, rfl, rfl, b8 _ _ htx (e7 _ _ t6), (L6.ex e7).xb (e7 _ _ hx6) b8⟩ ⟨dx, _, D, upd_same, rfl, rfl, b8 _ _ (fun e => by rw [e, hx6] at hD; cases hD) upd_same⟩
end
end W7
end
section
namespace W7
/-! ### depths -/
theorem rk_le {fm : List Nat} {t g : Nat} (h : g ∈ fm) : rkF fm t ≤ bits (g ^^^ t) := (mn_ok (ns := fm.map fun m => bits (m ^^^ t)) (by simp; exact List.ne_nil_of_mem h)).2 _ (List.mem_map.mpr ⟨g, h, rfl⟩)
theorem rk_at {fm : List Nat} (t : Nat) (h : fm ≠ []) : ∃ g ∈ fm, bits (g ^^^ t) = rkF fm t := by
  have h2 : fm.map (fun m => bits (m ^^^ t)) ≠ [] := by simpa using h
  obtain ⟨m, hm, e⟩ := List.mem_map.mp (mn_ok h2).1
  exact ⟨m, hm, e⟩
theorem bits_tog : ∀ a : Nat, a < 32 → ∀ x : Nat, x < 5 → bits (a ^^^ (1 <<< x)) ≤ bits a + 1 ∧ bits a ≤ bits (a ^^^ (1 <<< x)) + 1 := by decide +kernel
theorem bits_size : ∀ size : Nat, size < 6 → ∀ a : Nat, a < 1 <<< size → bits a ≤ size := by decide +kernel
theorem sh_lt {size x : Nat} (h : x < size) : 1 <<< x < 1 <<< size := by
  rw [Nat.one_shiftLeft, Nat.one_shiftLeft]
  exact Nat.pow_lt_pow_right (by decide) h
theorem tog_sh {size t x : Nat} (ht : t < 1 <<< size) (hx : x < size) : t ^^^ (1 <<< x) < 1 <<< size := xor_lt_sh ht (sh_lt hx)
theorem x32 {size a b : Nat} (h5 : size ≤ 5) (ha : a < 1 <<< size) (hb : b < 1 <<< size) : a ^^^ b < 32 := sh32 h5 (xor_lt_sh ha hb)
theorem rk_lip {size : Nat} {fm : List Nat} (ok : FamOk size fm) {t x : Nat} (ht : t < 1 <<< size) (hx : x < size) : rkF fm (t ^^^ (1 <<< x)) ≤ rkF fm t + 1 ∧ rkF fm t ≤ rkF fm (t ^^^ (1 <<< x)) + 1 := by
  have hz := ok.s5
  obtain ⟨g, hg, eg⟩ := rk_at t ok.ne
  obtain ⟨f, hf, ef⟩ := rk_at (t ^^^ (1 <<< x)) ok.ne
  have h1 := rk_le (t := t ^^^ (1 <<< x)) hg
  have h2 := rk_le (t := t) hf
  have a1 := bits_tog _ (x32 hz (ok.lt g hg) ht) x (by omega)
  have a2 := bits_tog _ (x32 hz (ok.lt f hf) ht) x (by omega)
  rw [← Nat.xor_assoc] at h1 ef
  omega
theorem rk_size {size : Nat} {fm : List Nat} (ok : FamOk size fm) {t : Nat} (ht : t < 1 <<< size) : rkF fm t ≤ size := by
  obtain ⟨g, hg, eg⟩ := rk_at t ok.ne
  have := bits_size size (by have := ok.s5; omega) _ (xor_lt_sh (ok.lt g hg) ht)
  omega
/-- the row of depths, thing by thing -/
def dvF (size : Nat) (fm : List Nat) : Nat → Nat → Nat
  | 0, m => if m ∈ fm then 0 else size
  | k + 1, m => min (dvF size fm k m) (dvF size fm k (m ^^^ (1 <<< k)) + 1)
theorem dv_low {size : Nat} {fm : List Nat} (ok : FamOk size fm) : ∀ k, k ≤ size → ∀ m, m < 1 <<< size → rkF fm m ≤ dvF size fm k m
  | 0, _, m, hm => by
    unfold dvF
    split
    · next h =>
      have := rk_le (t := m) h
      rw [Nat.xor_self] at this
      exact this
    · exact rk_size ok hm
  | k + 1, hk, m, hm => by
    have h1 := dv_low ok k (by omega) m hm
    have h2 := dv_low ok k (by omega) _ (tog_sh hm (by omega : k < size))
    have h3 := (rk_lip ok hm (by omega : k < size)).2
    rw [dvF]
    omega
theorem cut_bit : ∀ k : Nat, k < 5 → ∀ a : Nat, a < 2 ^ (k + 1) → ¬ a < 2 ^ k → a ^^^ (1 <<< k) < 2 ^ k ∧ bits (a ^^^ (1 <<< k)) + 1 = bits a := by decide +kernel
theorem dv_up {size : Nat} {fm : List Nat} (ok : FamOk size fm) : ∀ k, k ≤ size → ∀ m, ∀ g ∈ fm, g ^^^ m < 2 ^ k → dvF size fm k m ≤ bits (g ^^^ m)
  | 0, _, m, g, hg, h => by
    have h0 : g ^^^ m = 0 := by
      have : g ^^^ m < 1 := by simpa using h
      omega
    have e : g = m := by
      have := congrArg (· ^^^ m) h0
      simpa [Nat.xor_assoc] using this
    subst e
    unfold dvF
    rw [if_pos hg]
    exact Nat.zero_le _
  | k + 1, hk, m, g, hg, h => by
    have hz := ok.s5
    rw [dvF]
    by_cases c : g ^^^ m < 2 ^ k
    · have := dv_up ok k (by omega) m g hg c
      omega
    · obtain ⟨c1, c2⟩ := cut_bit k (by omega) _ h c
      have := dv_up ok k (by omega) (m ^^^ (1 <<< k)) g hg (by rw [← Nat.xor_assoc]; exact c1)
      rw [← Nat.xor_assoc] at this
      omega
theorem dv_ok {size : Nat} {fm : List Nat} (ok : FamOk size fm) {m : Nat} (hm : m < 1 <<< size) : dvF size fm size m = rkF fm m := by
  have h1 := dv_low ok size (Nat.le_refl _) m hm
  obtain ⟨g, hg, eg⟩ := rk_at m ok.ne
  have h2 := dv_up ok size (Nat.le_refl _) m g hg (by rw [← Nat.one_shiftLeft]; exact xor_lt_sh (ok.lt g hg) hm)
  omega
/-! ### what lowers -/
def downF (size : Nat) (fm : List Nat) (t : Nat) : List Nat := (List.range size).filter fun x => decide (rkF fm (t ^^^ (1 <<< x)) < rkF fm t)
theorem base_rk {fm : List Nat} {t b : Nat} (h : b ∈ basesF fm t) : bits b = rkF fm t := bases_bits h
theorem xx (t a b : Nat) : (t ^^^ a) ^^^ b = (t ^^^ b) ^^^ a := by rw [Nat.xor_assoc, Nat.xor_comm a b, ← Nat.xor_assoc]
/-- the bases one thing on -/
theorem base_step {size : Nat} {fm : List Nat} (ok : FamOk size fm) {t x b : Nat} (ht : t < 1 <<< size) (hx : x < size) (h : b ∈ basesF fm t) (hb : b.testBit x = true) : b ^^^ (1 <<< x) ∈ basesF fm (t ^^^ (1 <<< x)) ∧ rkF fm (t ^^^ (1 <<< x)) + 1 = rkF fm t := by
  have hz := ok.s5
  obtain ⟨h1, h2⟩ := bases_mem.mp h
  have b32 := bases_lt ok ht h
  have e1 := bit_off b b32 x (by omega) hb
  have e2 := base_rk h
  have h3 : (b ^^^ (1 <<< x)) ^^^ (t ^^^ (1 <<< x)) ∈ fm := by
    have : (b ^^^ (1 <<< x)) ^^^ (t ^^^ (1 <<< x)) = b ^^^ t := by
      rw [Nat.xor_comm t, ← Nat.xor_assoc, back]
    rw [this]; exact h1
  have h4 := rk_le (t := t ^^^ (1 <<< x)) h3
  rw [back] at h4
  have h5 := (rk_lip ok ht hx).2
  refine ⟨bases_mem.mpr ⟨h3, fun c hc => ?_⟩, by omega⟩
  have := rk_le (t := t ^^^ (1 <<< x)) hc
  rw [back] at this
  omega
theorem base_back {size : Nat} {fm : List Nat} (ok : FamOk size fm) {t x b : Nat} (ht : t < 1 <<< size) (hx : x < size) (hr : rkF fm (t ^^^ (1 <<< x)) < rkF fm t) (h : b ∈ basesF fm (t ^^^ (1 <<< x))) : b ^^^ (1 <<< x) ∈ basesF fm t ∧ (b ^^^ (1 <<< x)).testBit x = true := by
  have hz := ok.s5
  obtain ⟨h1, h2⟩ := bases_mem.mp h
  have b32 := bases_lt ok (tog_sh ht hx) h
  have e2 := base_rk h
  have h5 := (rk_lip ok ht hx).2
  have h3 : (b ^^^ (1 <<< x)) ^^^ t ∈ fm := by rw [Nat.xor_assoc, Nat.xor_comm _ t]; exact h1
  have h4 := rk_le (t := t) h3
  rw [back] at h4
  have h6 := bits_tog b b32 x (by omega)
  refine ⟨bases_mem.mpr ⟨h3, fun c hc => ?_⟩, ?_⟩
  · have := rk_le (t := t) hc
    rw [back] at this
    omega
  · rw [tog_eq]
    cases hb : b.testBit x with
    | false => rfl
    | true =>
      have := bit_off b b32 x (by omega) hb
      omega
theorem down_mem {size : Nat} {fm : List Nat} (ok : FamOk size fm) {t x : Nat} (ht : t < 1 <<< size) : x ∈ downF size fm t ↔ x < size ∧ ∃ b ∈ basesF fm t, b.testBit x = true := by
  unfold downF
  rw [List.mem_filter, List.mem_range, decide_eq_true_eq]
  constructor
  · rintro ⟨hx, hr⟩
    obtain ⟨b, hb⟩ := List.exists_mem_of_ne_nil _ (bases_ne (t := t ^^^ (1 <<< x)) ok.ne)
    obtain ⟨h1, h2⟩ := base_back ok ht hx hr hb
    exact ⟨hx, _, h1, h2⟩
  · rintro ⟨hx, b, hb, h2⟩
    have := (base_step ok ht hx hb h2).2
    exact ⟨hx, by omega⟩
/-- two lower together by two just with a base that has both -/
theorem pair_bits : ∀ n : Nat, n < 32 → ∀ x : Nat, x < 5 → ∀ z : Nat, z < x → bits (n ^^^ ((1 <<< x) + (1 <<< z))) ≤ bits n + 2 ∧ bits n ≤ bits (n ^^^ ((1 <<< x) + (1 <<< z))) + 2 ∧ (bits n = bits (n ^^^ ((1 <<< x) + (1 <<< z))) + 2 ↔ n &&& ((1 <<< x) + (1 <<< z)) = ((1 <<< x) + (1 <<< z))) := by decide +kernel
theorem pair_lt {size x z : Nat} (h5 : size ≤ 5) (hx : x < size) (hz : z < x) : (1 <<< x) + (1 <<< z) < 1 <<< size := by
  have : ∀ size : Nat, size < 6 → ∀ x : Nat, x < size → ∀ z : Nat, z < x → (1 <<< x) + (1 <<< z) < 1 <<< size := by decide +kernel
  exact this size (by omega) x hx z hz
theorem pair_down {size : Nat} {fm : List Nat} (ok : FamOk size fm) {t x z : Nat} (ht : t < 1 <<< size) (hx : x < size) (hzx : z < x) :
    (rkF fm (t ^^^ ((1 <<< x) + (1 <<< z))) + 2 = rkF fm t) ↔ ∃ b ∈ basesF fm t, b &&& ((1 <<< x) + (1 <<< z)) = (1 <<< x) + (1 <<< z) := by
  have hz := ok.s5
  have hp := pair_lt hz hx hzx
  generalize hP : (1 <<< x) + (1 <<< z) = p at *
  have pb : ∀ n, n < 32 → bits (n ^^^ p) ≤ bits n + 2 ∧ bits n ≤ bits (n ^^^ p) + 2 ∧ (bits n = bits (n ^^^ p) + 2 ↔ n &&& p = p) := by rw [← hP]; exact fun n hn => pair_bits n hn x (by omega) z hzx
  have ht2 := xor_lt_sh ht hp
  obtain ⟨g, hg, eg⟩ := rk_at (t ^^^ p) ok.ne
  have g32 : g ^^^ t < 32 := x32 hz (ok.lt g hg) ht
  have e1 : g ^^^ (t ^^^ p) = (g ^^^ t) ^^^ p := by rw [Nat.xor_assoc]
  constructor
  · intro h
    have h1 := rk_le (t := t) hg
    have h2 := pb _ g32
    rw [e1] at eg
    refine ⟨g ^^^ t, bases_mem.mpr ⟨by rw [back]; exact hg, fun c hc => ?_⟩, h2.2.2.mp (by omega)⟩
    have := rk_le (t := t) hc
    rw [back] at this
    omega
  · rintro ⟨b, hb, hbp⟩
    have b32 := bases_lt ok ht hb
    have h2 := (pb b b32).2.2.mpr hbp
    have h3 := base_rk hb
    have h4 : (b ^^^ p) ^^^ (t ^^^ p) ∈ fm := by rw [Nat.xor_comm t, ← Nat.xor_assoc, back]; exact (bases_mem.mp hb).1
    have h5 := rk_le (t := t ^^^ p) h4
    rw [back] at h5
    have h6 := pb _ g32
    have h7 := rk_le (t := t) hg
    rw [e1] at eg
    omega
/-! ### ways down -/
theorem sub_bits : ∀ y : Nat, y < 32 → ∀ b : Nat, b < 32 → y &&& b = y → bits (b ^^^ y) + bits y = bits b := by decide +kernel
theorem bits_tri : ∀ a : Nat, a < 32 → ∀ b : Nat, b < 32 → bits (a ^^^ b) ≤ bits a + bits b := by decide +kernel
theorem rk_tri {size : Nat} {fm : List Nat} (ok : FamOk size fm) {t y : Nat} (ht : t < 1 <<< size) (hy : y < 1 <<< size) : rkF fm t ≤ rkF fm (t ^^^ y) + bits y := by
  have hz := ok.s5
  obtain ⟨g, hg, eg⟩ := rk_at (t ^^^ y) ok.ne
  have h1 := rk_le (t := t) hg
  have h2 := bits_tri (g ^^^ (t ^^^ y)) (x32 hz (ok.lt g hg) (xor_lt_sh ht hy)) y (sh32 hz hy)
  have e : (g ^^^ (t ^^^ y)) ^^^ y = g ^^^ t := by rw [← Nat.xor_assoc, back]
  rw [e] at h2
  omega
/-- a part of a base lowers by as much as it has -/
theorem part_down {size : Nat} {fm : List Nat} (ok : FamOk size fm) {t y b : Nat} (ht : t < 1 <<< size) (hb : b ∈ basesF fm t) (hy : y &&& b = y) : rkF fm (t ^^^ y) + bits y = rkF fm t := by
  have hz := ok.s5
  have b32 := bases_lt ok ht hb
  have hyb : y ≤ b := by rw [← hy]; exact Nat.and_le_right
  have bsz : b < 1 <<< size := by
    have h := bases_mem.mp hb
    have := xor_lt_sh (ok.lt _ h.1) ht
    rwa [back] at this
  have h1 := rk_tri ok ht (by omega : y < 1 <<< size)
  have h2 : (b ^^^ y) ^^^ (t ^^^ y) ∈ fm := by rw [Nat.xor_comm t, ← Nat.xor_assoc, back]; exact (bases_mem.mp hb).1
  have h3 := rk_le (t := t ^^^ y) h2
  rw [back] at h3
  have h4 := sub_bits y (by omega) b b32 hy
  have h5 := base_rk hb
  omega
/-- the lots that k steps down reach -/
def stepsF (size : Nat) (fm : List Nat) (t k : Nat) : List Nat := (List.range (1 <<< size)).filter fun n => decide (bits (n ^^^ t) = k) && decide (rkF fm n + k = rkF fm t)
theorem steps_mem {size : Nat} {fm : List Nat} {t k n : Nat} : n ∈ stepsF size fm t k ↔ n < 1 <<< size ∧ bits (n ^^^ t) = k ∧ rkF fm n + k = rkF fm t := by
  unfold stepsF
  rw [List.mem_filter, List.mem_range, Bool.and_eq_true, decide_eq_true_eq, decide_eq_true_eq]
theorem bits_zero : ∀ a : Nat, a < 32 → bits a = 0 → a = 0 := by decide +kernel
theorem steps_zero {size : Nat} {fm : List Nat} {t : Nat} (h5 : size ≤ 5) (ht : t < 1 <<< size) : ∀ n, n ∈ stepsF size fm t 0 ↔ n = t := fun n => by
  rw [steps_mem]
  constructor
  · rintro ⟨h1, h2, _⟩
    have h3 := bits_zero _ (x32 h5 h1 ht) h2
    have := congrArg (· ^^^ t) h3
    simpa [Nat.xor_assoc] using this
  · rintro rfl
    exact ⟨ht, by rw [Nat.xor_self]; rfl, rfl⟩
theorem some_bit : ∀ a : Nat, a < 32 → bits a ≠ 0 → ∃ x, x < 5 ∧ a.testBit x = true := by
  have h : ∀ a : Nat, a < 32 → bits a ≠ 0 → (List.range 5).any (fun x => a.testBit x) = true := by decide +kernel
  intro a ha hb
  obtain ⟨x, hx, h2⟩ := List.any_eq_true.mp (h a ha hb)
  exact ⟨x, List.mem_range.mp hx, h2⟩
theorem bit_sz {size a x : Nat} (h : a < 1 <<< size) (hx : a.testBit x = true) : x < size := tb_lt (by rw [← Nat.one_shiftLeft]; exact h) hx
theorem steps_succ {size : Nat} {fm : List Nat} (ok : FamOk size fm) {t k : Nat} (ht : t < 1 <<< size) (n : Nat) : n ∈ stepsF size fm t (k + 1) ↔ ∃ s ∈ stepsF size fm t k, ∃ x ∈ downF size fm s, n = s ^^^ (1 <<< x) := by
  have hz := ok.s5
  constructor
  · intro h
    obtain ⟨h1, h2, h3⟩ := steps_mem.mp h
    obtain ⟨x, hx5, hx⟩ := some_bit _ (x32 hz h1 ht) (by omega)
    have hxs := bit_sz (xor_lt_sh h1 ht) hx
    have e : (n ^^^ (1 <<< x)) ^^^ t = (n ^^^ t) ^^^ (1 <<< x) := xx _ _ _
    have b1 := bit_off _ (x32 hz h1 ht) x hx5 hx
    have hs := tog_sh h1 hxs
    have r1 := (rk_lip ok h1 hxs)
    have r2 := rk_tri ok ht (xor_lt_sh hs ht)
    have e2 : t ^^^ ((n ^^^ (1 <<< x)) ^^^ t) = n ^^^ (1 <<< x) := by rw [Nat.xor_comm, back]
    rw [e2, e] at r2
    have hr : rkF fm (n ^^^ (1 <<< x)) + k = rkF fm t := by omega
    refine ⟨n ^^^ (1 <<< x), steps_mem.mpr ⟨hs, by rw [e]; omega, hr⟩, x, ?_, (back n (1 <<< x)).symm⟩
    unfold downF
    rw [List.mem_filter, List.mem_range, decide_eq_true_eq, back]
    exact ⟨hxs, by omega⟩
  · rintro ⟨s, hs, x, hx, rfl⟩
    obtain ⟨h1, h2, h3⟩ := steps_mem.mp hs
    unfold downF at hx
    rw [List.mem_filter, List.mem_range, decide_eq_true_eq] at hx
    obtain ⟨hxs, hx⟩ := hx
    have r1 := rk_lip ok h1 hxs
    have hn := tog_sh h1 hxs
    have e : (s ^^^ (1 <<< x)) ^^^ t = (s ^^^ t) ^^^ (1 <<< x) := xx _ _ _
    have b1 := bits_tog (s ^^^ t) (x32 hz h1 ht) x (by omega)
    have r2 := rk_tri ok ht (xor_lt_sh hn ht)
    have e2 : t ^^^ ((s ^^^ (1 <<< x)) ^^^ t) = s ^^^ (1 <<< x) := by rw [Nat.xor_comm, back]
    rw [e2, e] at r2
    rw [← e] at b1 r2
    refine steps_mem.mpr ⟨hn, by omega, by omega⟩
theorem steps_near {size : Nat} {fm : List Nat} (ok : FamOk size fm) {t : Nat} (ht : t < 1 <<< size) (n : Nat) : n ∈ stepsF size fm t (rkF fm t) ↔ n ∈ nearF fm t := by
  have hz := ok.s5
  rw [steps_mem]
  unfold nearF
  rw [List.mem_filter, decide_eq_true_eq]
  constructor
  · rintro ⟨h1, h2, h3⟩
    have h4 : rkF fm n = 0 := by omega
    obtain ⟨g, hg, eg⟩ := rk_at n ok.ne
    have h5 := bits_zero _ (x32 hz (ok.lt g hg) h1) (by omega)
    have e : g = n := by
      have := congrArg (· ^^^ n) h5
      simpa [Nat.xor_assoc] using this
    subst e
    exact ⟨hg, h2⟩
  · rintro ⟨h1, h2⟩
    refine ⟨ok.lt n h1, h2, ?_⟩
    have := rk_le (t := n) h1
    rw [Nat.xor_self] at this
    have : bits 0 = 0 := rfl
    omega
end W7
end
section
namespace W7
open PySem PySem.Spec PyProof.Rows L2 L3 Evl
open C8 (Cal pe_c Mak pe_mk Met pe_mt pe_mt0)
section
variable {X : Cx} {K : PySem.W.Frag} {P : Program} {w : World}
theorem cr_setOfTK (hK : X.K = K) (hP : X.prog = P) (hw : X.w = w) (hc : X.calm = true) (hu : X.A.units + 64 < cLine) : CallR X (.type "set") (rSetOfT K P w) := hK ▸ hP ▸ hw ▸ cr_setOfT hc hu
theorem cr_sortSetLK (hK : X.K = K) (hP : X.prog = P) (hw : X.w = w) (hc : X.calm = true) (hu : X.A.units + 64 < cLine) : CallR X (.builtin "sorted") (rSortSetL K P w) := hK ▸ hP ▸ hw ▸ cr_sortSetL hc hu
theorem cr_anyK (hK : X.K = K) (hc : X.calm = true) : CallR X (.builtin "any") (rAny K) := hK ▸ cr_any hc
theorem units65 {k : Nat} {A : Around} (r : Room k A) : A.units + 65 < cLine := by have := r.un; omega
end
theorem lexLe_anti {x y : List Nat} (h1 : lexLe x y) (h2 : lexLe y x) : x = y := by
  have e := List.le_antisymm h1 h2
  exact List.map_inj_right (fun a b h => by omega) |>.mp e
theorem lots_eq {L M : List (List Nat)} (h : L.Perm M) (h1 : L.Pairwise lexLe) (h2 : M.Pairwise lexLe) : L = M := h.eq_of_pairwise (fun a b _ _ => lexLe_anti) h1 h2
/-! ### data of lots -/
theorem dp_nats {K : PySem.W.Frag} {H : Hp} : ∀ ns : List Nat, DpAll K H (nv ns) ((ns.map fun n => ((n : Nat) : Int)).map PyData.int)
  | [] => .nil
  | n :: ns => .cons (.int _) (dp_nats ns)
def rowD (ns : List Nat) : PyData := .tuple ((ns.map fun n => ((n : Nat) : Int)).map PyData.int)
theorem dp_lots {K : PySem.W.Frag} {H : Hp} : ∀ {rs : List V} {L : List (List Nat)}, Lots H rs L → DpAll K H rs (L.map rowD)
  | [], [], _ => .nil
  | [], _ :: _, h => by have := h.1; simp at this
  | _ :: _, [], h => by have := h.1; simp at this
  | r :: rs, ns :: L, h => by
    obtain ⟨t, rfl, ht⟩ := h.2 0 r ns rfl rfl
    exact .cons (.tup (st_of ht) (dp_nats ns)) (dp_lots ⟨by have := h.1; simpa using this, fun i r ns a b => h.2 (i + 1) r ns a b⟩)
theorem lay_lots : ∀ L : List (List Nat), PyData.canLayAll0 (L.map rowD) = true
  | [] => by rw [List.map_nil]; simp [PyData.canLayAll0]
  | ns :: L => by
    rw [List.map_cons]
    simp only [PyData.canLayAll0, rowD, PyData.canLay0, Bool.and_eq_true]
    exact ⟨PySem.W.canLayAll0_ints _, lay_lots L⟩
theorem depth_lots : ∀ L : List (List Nat), PyData.depthAll (L.map rowD) ≤ 2
  | [] => by rw [List.map_nil]; simp [PyData.depthAll]
  | ns :: L => by
    have h1 := depth_lots L
    have h2 := PySem.W.depthAll_ints (ns.map fun n => ((n : Nat) : Int))
    rw [List.map_cons]
    simp only [PyData.depthAll, rowD, PyData.depth] at *
    omega
theorem shaped_lots (L : List (List Nat)) : SeqAt.shaped (.tuple (L.map rowD)) = true ∧ SeqAt.shaped (.list (L.map rowD)) = true := by
  have h1 := depth_lots L
  have h2 : PyData.depth (.tuple (L.map rowD)) ≤ 64 := by simp only [PyData.depth]; omega
  have h3 : PyData.depth (.list (L.map rowD)) ≤ 64 := by simp only [PyData.depth]; omega
  constructor
  · show (PyData.canLay0 (.tuple (L.map rowD)) && decide (PyData.depth (.tuple (L.map rowD)) ≤ 64)) = true
    rw [Bool.and_eq_true]
    exact ⟨by simp only [PyData.canLay0]; exact lay_lots L, decide_eq_true h2⟩
  · show (PyData.canLay0 (.list (L.map rowD)) && decide (PyData.depth (.list (L.map rowD)) ≤ 64)) = true
    rw [Bool.and_eq_true]
    exact ⟨by simp only [PyData.canLay0]; exact lay_lots L, decide_eq_true h3⟩
theorem shaped_row (ns : List Nat) : SeqAt.shaped (rowD ns) = true := by
  have h2 := PySem.W.depthAll_ints (ns.map fun n => ((n : Nat) : Int))
  have h3 : PyData.depth (rowD ns) ≤ 64 := by unfold rowD; simp only [PyData.depth]; omega
  show (PyData.canLay0 (rowD ns) && decide (PyData.depth (rowD ns) ≤ 64)) = true
  rw [Bool.and_eq_true]
  exact ⟨by unfold rowD; simp only [PyData.canLay0]; exact PySem.W.canLayAll0_ints _, decide_eq_true h3⟩
theorem eqv_self {d : PyData} (h : SeqAt.shaped d = true) : PyData.eqv d d = true := SeqAt.eqv_refl _ (SeqAt.canLay_of_shaped h)
section
variable {K : PySem.W.Frag} {σ : L2.St} {H : Hp} {ta tb te tl : TE} {v : V} {tt : TT}
/-- tuple comparisons of known equal rows -/
theorem ev_neLots {r s : V} {L : List (List Nat)} (h : ∀ H1, Ex H H1 → ∀ Q : VK, (∀ p q rs ss H2, Ex H1 H2 → (H2 p = some (.tup rs) ∧ H2 q = some (.tup ss) ∨ H2 p = some (.lst rs) ∧ H2 q = some (.lst ss)) → Lots H2 rs L → Lots H2 ss L → rNeD K (.ref p) (.ref q) H2 Q) → tOp (rNeD K) ta tb σ H1 Q) : Ev (tOp (rNeD K) ta tb) σ H (.bl false) := fun H1 e Q q => h H1 e Q fun p q' rs ss H2 e2 hpq l1 l2 => by
  rcases hpq with ⟨h1, h2⟩ | ⟨h1, h2⟩
  · refine ⟨_, _, .tup (st_of h1) (dp_lots l1), .tup (st_of h2) (dp_lots l2), (shaped_lots L).1, (shaped_lots L).1, ?_⟩
    rw [eqv_self (shaped_lots L).1]
    exact q H2 e2
  · refine ⟨_, _, .lst (sq_of h1) (dp_lots l1), .lst (sq_of h2) (dp_lots l2), (shaped_lots L).2, (shaped_lots L).2, ?_⟩
    rw [eqv_self (shaped_lots L).2]
    exact q H2 e2
/-- two tuples of the same naturals -/
theorem ev_neRowsUU {ns : List Nat} (ha : EvU ta σ H (nv ns)) (hb : ∀ H1, Ex H H1 → EvU tb σ H1 (nv ns)) : Ev (tOp (rNeD K) ta tb) σ H (.bl false) := fun H1 e Q q =>
  ha H1 e _ fun p H2 hp e2 h2 => hb H2 (e.trans e2) H2 (Ex.refl _) _ fun p2 H3 hp2 e3 h3 => by
    refine ⟨_, _, .tup (st_of (e3 _ _ h2)) (dp_nats ns), .tup (st_of h3) (dp_nats ns), shaped_row ns, shaped_row ns, ?_⟩
    have := eqv_self (shaped_row ns)
    unfold rowD at this
    rw [this]
    exact q H3 (e2.trans e3)
/-- [f(i, v) for i, v in enumerate(xs) if t], the list new -/
theorem el_enumV {xs : List V} {j1 j2 : Nat} {vs : List Nat} (F : Nat → V → Bool) (G : Nat → V → V) (h : EvL tl σ H xs) (hz : xs.length ≤ 40000)
    (hw : ∀ x y, wipe (((wipe σ vs).set j1 (some x)).set j2 (some y)) vs = wipe σ vs)
    (ht : ∀ (i : Nat) (v : V) H1, Ex H H1 → xs[i]? = some v → EvT tt (((wipe σ vs).set j1 (some (.int (i : Nat)))).set j2 (some v)) H1 (F i v))
    (he : ∀ (i : Nat) (v : V) H1, Ex H H1 → xs[i]? = some v → F i v = true → Ev te (((wipe σ vs).set j1 (some (.int (i : Nat)))).set j2 (some v)) H1 (G i v)) :
    EvL (tLc (iEnumA K (tCons tl tNil)) (gTup K 2 (gCons (gName j1) (gCons (gName j2) gNil))) tt te vs) σ H (((List.range xs.length).filter fun i => F i (xs.getD i .non)).map fun i => G i (xs.getD i .non)) := fun H0 e Q q => h H0 e _ fun a H1 ha e1 hx => ⟨a, xs, rfl, .inl ⟨sq_of hx, fun Dl hD =>
  lc_enumL (xs := xs) (fun i H' => H1 Dl = none ∧ Ex H1 H' ∧ H' Dl = some (.lst (((List.range i).filter fun i => F i (xs.getD i .non)).map fun i => G i (xs.getD i .non)))) ⟨hD, Ex.new hD, upd_same⟩ (fun i H' _ p => sq_of (p.2.1 _ _ hx)) (fun i x H' T hi ⟨p1, p2, p3⟩ hT => by
    have hil := (List.getElem?_eq_some_iff.mp hi).1
    have hg : xs.getD i .non = x := by simp [List.getD, hi]
    have eT := Ex.new (o := .tup [.int (i : Nat), x]) hT
    have lenb : (((List.range i).filter fun i => F i (xs.getD i .non)).map fun i => G i (xs.getD i .non)).length ≤ i := by
      rw [List.length_map]
      refine Nat.le_trans (List.length_filter_le _ _) ?_
      rw [List.length_range]; exact Nat.le_refl _
    refine ⟨T, [.int (i : Nat), x], rfl, st_of upd_same, rfl, _, _, rfl, _, _, rfl, rfl, hw _ _, ?_⟩
    refine ht i x H' (e.trans (e1.trans p2)) hi _ eT _ fun H3 e3 => ?_
    have ee := p2.trans (eT.trans e3)
    have p4 := e3 _ _ (eT _ _ p3)
    cases hf : F i x with
    | true =>
      show te _ H3 _
      refine he i x H' (e.trans (e1.trans p2)) hi hf H3 (eT.trans e3) _ fun H4 e4 => ⟨_, e4 _ _ p4, sz_lt (by omega), p1, Ex.mut (ee.trans e4) p1, ?_⟩
      rw [upd_same, List.range_succ, List.filter_append, List.map_append, List.filter_cons, hg, if_pos hf]
      simp [hi]
    | false =>
      show _ ∧ _ ∧ _
      refine ⟨p1, ee, ?_⟩
      rw [p4, List.range_succ, List.filter_append, List.map_append, List.filter_cons, hg, if_neg (by rw [hf]; decide)]
      simp) (fun H' ⟨p1, p2, p3⟩ => q Dl H' (fresh_back e1 p1) (e1.trans p2) p3)⟩⟩
/-- [..] over a tuple that is known -/
theorem el_lcTup {a : Addr} {xs : List V} {j : Nat} {vs : List Nat} (f : Nat → Bool) (v : Nat → V) (h : Ev tl σ H (.ref a)) (hx : SqT K H a xs) (hz : xs.length ≤ 40000) (hw : ∀ x, wipe ((wipe σ vs).set j (some x)) vs = wipe σ vs)
    (ht : ∀ (i : Nat) (x : V) H1, Ex H H1 → xs[i]? = some x → EvT tt ((wipe σ vs).set j (some x)) H1 (f i)) (he : ∀ (i : Nat) (x : V) H1, Ex H H1 → xs[i]? = some x → f i = true → Ev te ((wipe σ vs).set j (some x)) H1 (v i)) :
    EvL (tLc (iTup K tl) (gName j) tt te vs) σ H (given xs.length f v) := by
  intro H0 e Q q
  apply h H0 e
  intro H1 e1
  refine ⟨a, rfl, ⟨xs, ex_t (e.trans e1) hx⟩, fun Dl free => ?_⟩
  apply lc_tup (xs := xs) fun i H' => Ex H1 H' ∧ H' Dl = some (.lst (given i f v))
  · exact ⟨Ex.new free, upd_same⟩
  · exact fun i H' _ p => ex_t ((e.trans e1).trans p.1) hx
  · rintro i x H' hi ⟨grown, list⟩
    have late := e.trans (e1.trans grown)
    refine ⟨hw x, ht i x H' late hi H' (Ex.refl H') _ fun H3 e3 => ?_⟩
    have list3 := e3 _ _ list
    have low := (List.getElem?_eq_some_iff.mp hi).1
    cases told : f i with
    | true =>
      show te _ H3 _
      refine he i x H' late hi told H3 e3 _ fun H4 e4 => ⟨_, e4 _ _ list3, sz_lt (Nat.lt_of_le_of_lt (given_len i f v) (by omega)), Ex.mut ((grown.trans e3).trans e4) free, ?_⟩
      rw [upd_same, given_yes told]
    | false =>
      show Ex H1 H3 ∧ _
      exact ⟨grown.trans e3, by rw [given_no told]; exact list3⟩
  · exact fun H' p => q Dl H' (fresh_back e1 free) (e1.trans p.1) p.2
theorem el_natsT {a : Addr} {ns : List Nat} {j : Nat} {vs : List Nat} {t : TT} (F : Nat → Bool) (G : Nat → V) (h : Ev tl σ H (.ref a)) (hx : SqT K H a (nv ns)) (hz : ns.length ≤ 40000) (hw : ∀ x, wipe ((wipe σ vs).set j (some x)) vs = wipe σ vs)
    (ht : ∀ (n : Nat) H1, Ex H H1 → n ∈ ns → EvT t ((wipe σ vs).set j (some (.int (n : Nat)))) H1 (F n)) (he : ∀ (n : Nat) H1, Ex H H1 → n ∈ ns → F n = true → Ev te ((wipe σ vs).set j (some (.int (n : Nat)))) H1 (G n)) :
    EvL (tLc (iTup K tl) (gName j) t te vs) σ H ((ns.filter F).map G) := by
  have e := el_lcTup (tt := t) (te := te) (fun i => F (ns.getD i 0)) (fun i => G (ns.getD i 0)) h hx (by rw [nv_len]; exact hz) hw (fun i x H1 e1 hi => by
    obtain ⟨n, hn, rfl⟩ := nv_get hi
    have e2 : ns.getD i 0 = n := by simp [List.getD, hn]
    show EvT t _ H1 (F (ns.getD i 0))
    rw [e2]
    exact ht n H1 e1 (List.mem_of_getElem? hn)) (fun i x H1 e1 hi hf => by
    obtain ⟨n, hn, rfl⟩ := nv_get hi
    have e2 : ns.getD i 0 = n := by simp [List.getD, hn]
    show Ev te _ H1 (G (ns.getD i 0))
    rw [e2] at hf ⊢
    exact he n H1 e1 (List.mem_of_getElem? hn) hf)
  rw [nv_len, given_nats (F := F) (G := G) (fun i n hn => by simp [List.getD, hn]) (fun i n hn => by simp [List.getD, hn])] at e
  exact e
theorem ev_anyL {bs : List Bool} (h : EvL te σ H (bv bs)) : Ev (tCB (rAny K) (tCons te tNil)) σ H (.bl (bs.any id)) := fun H1 e Q q => h H1 e _ fun p H2 hp e2 h2 => ⟨p, bs, rfl, sq_of h2, q H2 e2⟩
theorem et_truB {b : Bool} (h : Ev te σ H (.bl b)) : EvT (fun σ H Q => te σ H fun x H' => ∃ k, TruV K x H' k ∧ Q k H') σ H b := fun H1 e Q q => h H1 e _ fun H2 e2 => ⟨b, rfl, q H2 e2⟩
end
end W7
end
section
namespace W7
open PySem PySem.Spec PyProof.Rows L2 L3 Evl
open C8 (Cal pe_c Mak pe_mk Met pe_mt pe_mt0)
section
variable {P : Program} {w : World} {K : PySem.W.Frag} {mg : Str → Option Value} {base : Heap} {f : Addr} {fd : FuncData} {CF CA : Addr}
def spIsThing : Sp := fun vs H Q _ => ∃ x size : Nat, vs = [.int x, .int size] ∧ x < size ∧ RetV (.bl true) H Q
theorem sc_is_thing : FnScope ["value", "size"] ["value", "size"] (defScope (top 17)) := ⟨rfl, rfl, rfl, by decide +kernel, rfl, by decide +kernel, by decide +kernel⟩
theorem c_is_thing (F : FnP K "is_thing" (top 17) f fd) (g : mg "is_thing" = some (.ref f)) (B : Bi mg) (c_is_int : Cal P w K mg base 1 "is_int" spIsInt []) : Cal P w K mg base 2 "is_thing" spIsThing [] := by
  refine mkCal F g sc_is_thing (fun _ _ _ _ _ _ us hl => match us, hl with | [_, _], _ => rfl) (fun vs H Q E h => ?_) (fun cdv A outer s H vs Q E hr h => ?_)
  · obtain ⟨x, size, rfl, _⟩ := h
    rfl
  · obtain ⟨x, size, rfl, hx, q⟩ := h
    refine ⟨_, (pss_one (ps_ret (pe_and (pe_c c_is_int hr (by decide) rfl (pa_cons (pv 0) pa_nil)) (pe_one (pe_chain on_le on_lt (pe_nat 0 pe_int) (pv 0) (pv 1)))))), ?_⟩
    have both : (decide (0 ≤ x) && decide (x < size)) = true := by simp [hx]
    exact s_ret (ev_andV (a := true) (b := decide (0 ≤ x) && decide (x < size)) (ev_call (ea_cons (ev_v 0) ea_nil) fun H2 e2 Q2 q2 E2 => ⟨_, rfl, q2⟩) fun _ => ev_chainN (g := fun a b => decide (a ≤ b)) (g' := fun a b => decide (a < b)) ev_c (ev_v 0) (ev_v 1)) (by rw [both]; exact q)
def spChkThing : Sp := fun vs H Q _ => ∃ x size : Nat, vs = [.int x, .int size] ∧ x < size ∧ RetV (.int x) H Q
theorem sc_check_thing : FnScope ["thing", "size"] ["thing", "size"] (defScope (top 18)) := ⟨rfl, rfl, rfl, by decide +kernel, rfl, by decide +kernel, by decide +kernel⟩
theorem c_check_thing (F : FnP K "check_thing" (top 18) f fd) (g : mg "check_thing" = some (.ref f)) (B : Bi mg) (c_is_thing : Cal P w K mg base 2 "is_thing" spIsThing []) : Cal P w K mg base 3 "check_thing" spChkThing [] := by
  refine mkCal F g sc_check_thing (fun _ _ _ _ _ _ us hl => match us, hl with | [_, _], _ => rfl) (fun vs H Q E h => ?_) (fun cdv A outer s H vs Q E hr h => ?_)
  · obtain ⟨x, size, rfl, _⟩ := h
    rfl
  · obtain ⟨x, size, rfl, hx, q⟩ := h
    refine ⟨_, (pss_cons (ps_if (pt_not (pt_val (pe_c c_is_thing hr (by decide) rfl (pa_cons (pv 0) (pa_cons (pv 1) pa_nil))))) (pss_one ps_never) pss_nil) (pss_one (ps_ret (pv 0)))), ?_⟩
    refine q_when (b := !true) (et_not (et_B (ev_call (ea_cons (ev_v 0) (ea_cons (ev_v 1) ea_nil)) fun H2 e2 Q2 q2 E2 => ⟨x, size, rfl, hx, q2⟩))) (fun hb => absurd hb (by decide)) (fun _ H1 e1 => ?_)
    exact s_ret (ev_v 0) fun H2 e2 => q H2 (e1.trans e2)
def depF (size : Nat) (fm : List Nat) : List Nat := (List.range (1 <<< size)).map (rkF fm)
theorem rng_get {n i : Nat} {F : Nat → Nat} (h : i < n) : ((List.range n).map F).getD i 0 = F i := by
  simp [List.getD, h]
theorem nv_rng {n i : Nat} {F : Nat → Nat} (h : i < n) : (nv ((List.range n).map F))[i]? = some (.int (F i : Nat)) := by
  unfold nv
  rw [List.getElem?_map, List.getElem?_map, List.getElem?_range h]; rfl
theorem sc_depth_row : FnScope ["family", "depths", "inside", "thing", "bit", "mask", "depth"] ["family"] (defScope (top 29)) := ⟨rfl, rfl, rfl, by decide +kernel, rfl, by decide +kernel, by decide +kernel⟩
theorem c_depth_row (C : FC K CF) (F : FnP K "depth_row" (top 29) f fd) (g : mg "depth_row" = some (.ref f)) (B : Bi mg) (c_inside_row : Cal P w K mg base 3 "inside_row" (spFm K CF fun size fm => bv (insF size fm)) []) : Cal P w K mg base 4 "depth_row" (spFm K CF fun size fm => nv (depF size fm)) [] := by
  refine mkCal F g sc_depth_row (fun _ _ _ _ _ _ us hl => match us, hl with | [_], _ => rfl) (fun vs H Q E h => ?_) (fun cdv A outer s H vs Q E hr h => ?_)
  · obtain ⟨a, size, fm, rfl, _⟩ := h
    rfl
  · obtain ⟨a, size, fm, rfl, hf, ok, q⟩ := h
    have hz := ok.s5
    have h64 := pow64 (n := size) (by omega)
    refine ⟨_, (pss_cons (ps_set (i := 1) sc_depth_row.nd rfl (Or.inr rfl) (pe_lc (own := [("inside", 2)]) (g := gName 2) (by rfl) sc_depth_row.nd (pi_list (pe_c c_inside_row hr (by decide) rfl (pa_cons (pv 0) pa_nil))) (blkOk_by (own := [("inside", 2)]) (N := ["family", "depths", "inside", "thing", "bit", "mask", "depth"]) (sc := defScope (top 29)) (by decide +kernel)) (fun _ _ _ _ _ => (pg_name (i := 2) sc_depth_row.nd rfl (by first | exact Or.inl rfl | exact Or.inr rfl))) (fun _ _ _ _ _ => pts_nil) (fun _ _ _ _ _ => (pe_ifExp (pt_val (pv 2)) (pe_nat 0 pe_int) (pe_fldK (K := K) rfl (pv 0) (by rfl)))))) (pss_cons (ps_for PassesOwn.never rfl (pi_range1 rfl B.range (pa_cons (pe_fld (pv 0) rfl) pa_nil)) (pg_name (i := 3) sc_depth_row.nd rfl (by first | exact Or.inl rfl | exact Or.inr rfl)) (pss_cons (ps_set (i := 4) sc_depth_row.nd rfl (by first | exact Or.inl rfl | exact Or.inr rfl) (pe_op on_shl (pe_nat 1 pe_int) (pv 3))) (pss_one (ps_set (i := 1) sc_depth_row.nd rfl (Or.inr rfl) (pe_lc (own := [("mask", 5), ("depth", 6)]) (g := gTup K 2 (gCons (gName 5) (gCons (gName 6) gNil))) (by rfl) sc_depth_row.nd (pi_enumA (by rfl) B.enumerate (pa_cons (pv 1) pa_nil)) (blkOk_by (own := [("mask", 5), ("depth", 6)]) (N := ["family", "depths", "inside", "thing", "bit", "mask", "depth"]) (sc := defScope (top 29)) (by decide +kernel)) (fun _ _ _ _ _ => (pg_tup rfl (pgs_cons (pg_name (i := 5) sc_depth_row.nd rfl (by first | exact Or.inl rfl | exact Or.inr rfl)) (pgs_cons (pg_name (i := 6) sc_depth_row.nd rfl (by first | exact Or.inl rfl | exact Or.inr rfl)) pgs_nil)))) (fun _ _ _ _ _ => pts_nil) (fun _ _ _ _ _ => (pe_callB (call_min2 rfl) (by rfl) B.min (by decide +kernel) (pa_cons (pv 6) (pa_cons (pe_op on_add (pe_ix (on_ix (K := K)) (pv 1) (pe_op on_xor (pv 5) (pv 4)) (fun _ _ => rfl)) (pe_nat 1 pe_int)) pa_nil))))))))) (pss_one (ps_ret (pv 1))))), ?_⟩
    have il : (insF size fm).length = 1 <<< size := by unfold insF; rw [List.length_map, List.length_range]
    have e0 : given (bv (insF size fm)).length (fun _ => true) (fun i => V.int ((dvF size fm 0 i : Nat) : Int)) = nv ((List.range (1 <<< size)).map (dvF size fm 0)) := by
      unfold given nv
      rw [bv_len, il, List.filter_eq_self.mpr (fun _ _ => rfl), List.map_map]; rfl
    have em := el_lcNL (K := K) (t := tYes) (te := tIf (tB (tVar 2)) (tC (.int ((0 : Nat) : Int))) (tFld K (tVar 0) "size")) (tl := tCall (spFm K CF fun size fm => bv (insF size fm)) [] C8.E0 (tCons (tVar 0) tNil)) (j := 2) (vs := [2]) (σ := [some (.ref a), none, none, none, none, none, none]) (H := H) (fun _ => true) (fun i => V.int ((dvF size fm 0 i : Nat) : Int)) (el_call (xs := bv (insF size fm)) (ea_cons (ev_v 0) ea_nil) fun H2 e2 Q2 q2 E2 => ⟨a, size, fm, rfl, hf.ex e2, ok, q2⟩) (by rw [bv_len, il]; omega) (fun _ => rfl) (fun _ _ _ _ _ => et_yes) (fun i x H1 e1 hi _ => by
      have hi2 := (List.getElem?_eq_some_iff.mp hi).1
      rw [bv_len, il] at hi2
      have hx : x = .bl (decide (i ∈ fm)) := by
        unfold bv insF at hi
        rw [List.getElem?_map, List.getElem?_map, List.getElem?_range hi2] at hi
        exact (Option.some.inj hi).symm
      subst hx
      refine ev_if (et_B (ev_v 2)) (fun hb => ?_) (fun hb => ?_)
      · have : dvF size fm 0 i = 0 := if_pos (of_decide_eq_true hb)
        rw [this]; exact ev_c
      · have : dvF size fm 0 i = size := if_neg (of_decide_eq_false hb)
        rw [this]; exact ev_size (hf.ex e1) C (ev_v 0))
    rw [e0] at em
    refine q_asgL em fun c0 H1 hc0 e1 h1 => ?_
    refine q_forR1 (n := (size : Int)) (ea_cons (ev_size (hf.ex e1) C (ev_v 0)) ea_nil) (by omega) (fun i σ H' => Ex H H' ∧ ∃ c v2 v3 v4 v5 v6, H c = none ∧ H' c = some (.lst (nv ((List.range (1 <<< size)).map (dvF size fm i)))) ∧ σ = [some (.ref a), some (.ref c), v2, v3, v4, v5, v6]) (fun H2 e2 => ⟨e1.trans e2, c0, _, _, _, _, _, hc0, e2 _ _ h1, rfl⟩) ?_ ?_
    · rintro i σ H' hi ⟨e0, c, v2, v3, v4, v5, v6, hc, h2, rfl⟩
      have his : i < size := by omega
      refine q_asg (ev_nc ev_c (ev_v 3) ⟨by decide, by omega⟩) fun H2 e2 => ?_
      have h3 := e2 _ _ h2
      have en := el_enumN (K := K) (tl := tVar 1) (te := tCB rMin2 (tCons (tVar 6) (tCons (tOp (rN0 fun a b => .int ((a + b : Nat) : Int)) (tOp (rIxN K) (tVar 1) (tOp (rN0 fun a b => .int ((a ^^^ b : Nat) : Int)) (tVar 5) (tVar 4))) (tC (.int ((1 : Nat) : Int)))) tNil))) (tt := tYes) (j1 := 5) (j2 := 6) (vs := [5, 6]) (σ := [some (.ref a), some (.ref c), v2, some (.int (i : Int)), some (.int (1 <<< i : Nat)), v5, v6]) (H := H2) (fun _ _ => true) (fun m d => .int ((min d (dvF size fm i (m ^^^ (1 <<< i)) + 1) : Nat) : Int)) (ev_v 1) (sq_of h3) (by simp; omega) (fun _ _ => rfl) (fun _ _ _ _ _ => et_yes) (fun m d H3 e3 hm _ => by
        have hm2 := (List.getElem?_eq_some_iff.mp hm).1
        rw [List.length_map, List.length_range] at hm2
        exact ev_min2N (ev_v 6) (ev_n (ev_ix (sq_of (e3 _ _ h3)) (ev_v 1) (ev_n (ev_v 5) (ev_v 4)) (nv_rng (tog_sh hm2 his))) ev_c))
      have e5 : (((List.range ((List.range (1 <<< size)).map (dvF size fm i)).length).filter fun _ => true).map fun m => V.int ((min (((List.range (1 <<< size)).map (dvF size fm i)).getD m 0) (dvF size fm i (m ^^^ (1 <<< i)) + 1) : Nat) : Int)) = nv ((List.range (1 <<< size)).map (dvF size fm (i + 1))) := by
        unfold nv
        rw [List.filter_eq_self.mpr (fun _ _ => rfl), List.length_map, List.length_range, List.map_map]
        refine List.map_congr_left fun m hm => ?_
        rw [rng_get (List.mem_range.mp hm)]; rfl
      rw [e5] at en
      refine s_asgL en fun d H4 hd e4 h4 => ⟨e0.trans (e2.trans e4), d, _, _, _, _, _, fresh_back (e0.trans e2) hd, h4, rfl⟩
    · rintro σ H' ⟨e0, c, v2, v3, v4, v5, v6, hc, h2, rfl⟩
      have e : ((size : Int)).toNat = size := by omega
      rw [e] at h2
      have e2 : (List.range (1 <<< size)).map (dvF size fm size) = depF size fm := List.map_congr_left fun m hm => dv_ok ok (List.mem_range.mp hm)
      rw [e2] at h2
      exact s_ret (ev_v 1) fun H2 e3 => q c H2 hc (e0.trans e3) (e3 _ _ h2)
def chgF (size : Nat) (fm : List Nat) (t : Nat) : List V := (List.range size).map fun x => V.int ((rkF fm (t ^^^ (1 <<< x)) : Int) - (rkF fm t : Int))
def spFamLot (CF : Addr) (R : Nat → List Nat → Nat → Hp → VK → Prop) : Sp := fun vs H Q _ => ∃ (a p : Addr) (size : Nat) (fm : List Nat) (t : Nat), vs = [.ref a, .ref p] ∧ FamAt H CF a size fm ∧ FamOk size fm ∧ t < 1 <<< size ∧ LotA H p (lotF t) ∧ R size fm t H Q
theorem sc_changes : FnScope ["family", "lot", "mask", "depths", "thing"] ["family", "lot"] (defScope (top 41)) := ⟨rfl, rfl, rfl, by decide +kernel, rfl, by decide +kernel, by decide +kernel⟩
theorem c_changes (C : FC K CF) (F : FnP K "changes" (top 41) f fd) (g : mg "changes" = some (.ref f)) (B : Bi mg) (c_mask_of : Cal P w K mg base 1 "mask_of" spMaskOf []) (c_lot_of : Cal P w K mg base 3 "lot_of" spLotOf []) (c_depth_row : Cal P w K mg base 4 "depth_row" (spFm K CF fun size fm => nv (depF size fm)) []) : Cal P w K mg base 5 "changes" (spFamLot CF fun size fm t => RetL (chgF size fm t)) [] := by
  refine mkCal F g sc_changes (fun _ _ _ _ _ _ us hl => match us, hl with | [_, _], _ => rfl) (fun vs H Q E h => ?_) (fun cdv A outer s H vs Q E hr h => ?_)
  · obtain ⟨a, p, size, fm, t, rfl, _⟩ := h
    rfl
  · obtain ⟨a, p, size, fm, t, rfl, hf, ok, ht, hp, q⟩ := h
    have hz := ok.s5
    have h64 := pow64 (n := size) (by omega)
    have lo := lot_ok ht (by omega)
    refine ⟨_, (pss_cons (ps_set (i := 2) sc_changes.nd rfl (by first | exact Or.inl rfl | exact Or.inr rfl) (pe_c c_mask_of hr (by decide) rfl (pa_cons (pe_c c_lot_of hr (by decide) rfl (pa_cons (pv 1) (pa_cons (pe_fld (pv 0) rfl) pa_nil))) pa_nil))) (pss_cons (ps_set (i := 3) sc_changes.nd rfl (by first | exact Or.inl rfl | exact Or.inr rfl) (pe_c c_depth_row hr (by decide) rfl (pa_cons (pv 0) pa_nil))) (pss_one (ps_ret (pe_lc (own := [("thing", 4)]) (g := gName 4) (by rfl) sc_changes.nd (pi_range1 rfl B.range (pa_cons (pe_fld (pv 0) rfl) pa_nil)) (blkOk_by (own := [("thing", 4)]) (N := ["family", "lot", "mask", "depths", "thing"]) (sc := defScope (top 41)) (by decide +kernel)) (fun _ _ _ _ _ => (pg_name (i := 4) sc_changes.nd rfl (by first | exact Or.inl rfl | exact Or.inr rfl))) (fun _ _ _ _ _ => pts_nil) (fun _ _ _ _ _ => (pe_op op_sub (pe_ix (on_ix (K := K)) (pv 3) (pe_op on_xor (pv 2) (pe_op on_shl (pe_nat 1 pe_int) (pv 4))) (fun _ _ => rfl)) (pe_ix (on_ix (K := K)) (pv 3) (pv 2) (fun _ _ => rfl))))))))), ?_⟩
    refine q_asg (v := .int (t : Nat)) (ev_callU (eu_call (xs := nv (lotF t)) (ea_cons (ev_v 1) (ea_cons (ev_size hf C (ev_v 0)) ea_nil)) fun H2 e2 Q2 q2 E2 => ⟨p, lotF t, size, rfl, hp.ex e2, lo.1, lo.2, q2⟩) fun r H1 h1 e1 H2 e2 Q2 q2 E2 => ⟨r, lotF t, rfl, .inr (e2 _ _ h1), fun x hx => by have := lotF_lt hx; omega, by rw [orF_lot t (by omega)]; exact q2⟩) fun H1 e1 => ?_
    refine q_asgL (el_call (xs := nv (depF size fm)) (ea_cons (ev_v 0) ea_nil) fun H2 e2 Q2 q2 E2 => ⟨a, size, fm, rfl, (hf.ex e1).ex e2, ok, q2⟩) fun d H2 hd e2 h2 => ?_
    have e12 := e1.trans e2
    refine s_retL (xs := chgF size fm t) ?_ fun r H3 hr3 e3 h3 => q r H3 (fresh_back e12 hr3) (e12.trans e3) h3
    have := el_rng (ta := tCons (tFld K (tVar 0) "size") tNil) (j := 4) (vs := [4]) (t := tYes) (te := tOp (rI0 fun a b => .int (a - b)) (tOp (rIxN K) (tVar 3) (tOp (rN0 fun a b => .int ((a ^^^ b : Nat) : Int)) (tVar 2) (tOp (rN (fun a b => a < 64 ∧ b < 64) fun a b => .int ((a <<< b : Nat) : Int)) (tC (.int ((1 : Nat) : Int))) (tVar 4)))) (tOp (rIxN K) (tVar 3) (tVar 2))) (σ := [some (.ref a), some (.ref p), some (.int (t : Nat)), some (.ref d), none]) (H := H2) (n := size) (fun _ => true) (fun x => V.int ((rkF fm (t ^^^ (1 <<< x)) : Int) - (rkF fm t : Int))) (ea_cons (ev_size (hf.ex e12) C (ev_v 0)) ea_nil) (by omega) (fun _ => rfl) (fun _ _ _ _ => et_yes) (fun x H3 e3 hx _ => ev_op (ev_ix (sq_of (e3 _ _ h2)) (ev_v 3) (ev_n (ev_v 2) (ev_nc ev_c (ev_v 4) ⟨by decide, by omega⟩)) (nv_rng (tog_sh ht hx))) (ev_ix (sq_of (e3 _ _ h2)) (ev_v 3) (ev_v 2) (nv_rng ht)) rv_I0)
    rw [List.filter_eq_self.mpr (fun _ _ => rfl)] at this
    exact this
theorem sc_lowers : FnScope ["family", "lot", "thing", "change"] ["family", "lot"] (defScope (top 42)) := ⟨rfl, rfl, rfl, by decide +kernel, rfl, by decide +kernel, by decide +kernel⟩
theorem c_lowers (C : FC K CF) (F : FnP K "lowers" (top 42) f fd) (g : mg "lowers" = some (.ref f)) (B : Bi mg) (c_changes : Cal P w K mg base 5 "changes" (spFamLot CF fun size fm t => RetL (chgF size fm t)) []) : Cal P w K mg base 6 "lowers" (spFamLot CF fun size fm t => RetU (nv (downF size fm t))) [] := by
  refine mkCal F g sc_lowers (fun _ _ _ _ _ _ us hl => match us, hl with | [_, _], _ => rfl) (fun vs H Q E h => ?_) (fun cdv A outer s H vs Q E hr h => ?_)
  · obtain ⟨a, p, size, fm, t, rfl, _⟩ := h
    rfl
  · obtain ⟨a, p, size, fm, t, rfl, hf, ok, ht, hp, q⟩ := h
    have hz := ok.s5
    have hl : (chgF size fm t).length = size := by unfold chgF; rw [List.length_map, List.length_range]
    refine ⟨_, (pss_one (ps_ret (pe_callTy call_tuple_of (by rfl) B.tuple (by decide +kernel) (pa_cons (pe_lc (own := [("thing", 2), ("change", 3)]) (g := gTup K 2 (gCons (gName 2) (gCons (gName 3) gNil))) (by rfl) sc_lowers.nd (pi_enumA (by rfl) B.enumerate (pa_cons (pe_c c_changes hr (by decide) rfl (pa_cons (pv 0) (pa_cons (pv 1) pa_nil))) pa_nil)) (blkOk_by (own := [("thing", 2), ("change", 3)]) (N := ["family", "lot", "thing", "change"]) (sc := defScope (top 42)) (by decide +kernel)) (fun _ _ _ _ _ => (pg_tup rfl (pgs_cons (pg_name (i := 2) sc_lowers.nd rfl (by first | exact Or.inl rfl | exact Or.inr rfl)) (pgs_cons (pg_name (i := 3) sc_lowers.nd rfl (by first | exact Or.inl rfl | exact Or.inr rfl)) pgs_nil)))) (fun _ _ _ _ _ => (pts_one (pt_cmpR op_lt (pv 3) pe_int (nomark _)))) (fun _ _ _ _ _ => (pv 2))) pa_nil)))), ?_⟩
    refine s_retU (xs := nv (downF size fm t)) (eu_tupOf ?_) fun r H3 hr3 e3 h3 => q r H3 hr3 e3 h3
    have := el_enumV (K := K) (tl := tCall (spFamLot CF fun size fm t => RetL (chgF size fm t)) [] C8.E0 (tCons (tVar 0) (tCons (tVar 1) tNil))) (te := tVar 2) (tt := tTest (tOp (rI0 fun a b => .bl (decide (a < b))) (tVar 3) (tC (.int 0)))) (j1 := 2) (j2 := 3) (vs := [2, 3]) (σ := [some (.ref a), some (.ref p), none, none]) (H := H) (fun i _ => decide (rkF fm (t ^^^ (1 <<< i)) < rkF fm t)) (fun i _ => .int (i : Nat)) (el_call (xs := chgF size fm t) (ea_cons (ev_v 0) (ea_cons (ev_v 1) ea_nil)) fun H2 e2 Q2 q2 E2 => ⟨a, p, size, fm, t, rfl, hf.ex e2, ok, ht, hp.ex e2, q2⟩) (by rw [hl]; omega) (fun _ _ => rfl) (fun i v H1 e1 hi => by
      have hi2 := (List.getElem?_eq_some_iff.mp hi).1
      rw [hl] at hi2
      have hv : v = V.int ((rkF fm (t ^^^ (1 <<< i)) : Int) - (rkF fm t : Int)) := by
        unfold chgF at hi
        rw [List.getElem?_map, List.getElem?_range hi2] at hi
        exact (Option.some.inj hi).symm
      subst hv
      refine et_is (et_test (ev_op (ev_v 3) ev_c rv_I0)) ?_
      rw [decide_eq_decide]
      omega) (fun i v H1 e1 hi _ => ev_v 2)
    rw [hl] at this
    exact this
end
end W7
end
section
namespace L3
open PySem PySem.Spec PyProof.Rows PyProof.V PySem.Calls L2
section
variable {prog : Program} {w : World} {A : Around} {s : Shared} {K : Type} [DecidableEq K] {knd : HeapKind prog w K} {E : Value → Shared → Prop}
/-- two dicts of one size of which each row of the first stands in the second -/
theorem samePairs_at {id : String} {a b : Addr} {ka kb : List (K × Addr × Value)} {Q : Bool → Shared → Prop} (ha : (a == sysModules) = false) (hb : (b == sysModules) = false) (da : s.heap.DictOfH knd a ka) (db : s.heap.DictOfH knd b kb) (room : knd.room A) (len : ka.length = kb.length)
    (hits : ∀ p ∈ ka, ∃ q, atKey kb p.1 = some q ∧ SeqAt.EqAt A s p.2.2 q.2 true) (h : Q true s) : wpAny (model prog w) A (Builtin.Dict.samePairs id a b) Q E s := by
  obtain ⟨oa, ea, pa, a1, a2, a3, a4, a5, a6⟩ := da
  obtain ⟨ob, eb, pb, b1, b2, b3, b4, b5, b6⟩ := db
  have na : ea.size = ka.length := by rw [← Array.length_toList, a4, List.length_map]
  have nb : eb.size = kb.length := by rw [← Array.length_toList, b4, List.length_map]
  unfold Builtin.Dict.samePairs; unfold Builtin.Dict.showsAll
  rw [ha, hb]
  refine wpAny_bind (wpAny_pure (wpAny_bind (wpAny_pure (wpAny_bind (wpAny_dictEntries a1 a3 (wpAny_bind (wpAny_dictEntries b1 b3 ?_)))))))
  rw [if_neg (by rw [na, nb, len, bne_self_eq_false]; exact Bool.false_ne_true)]
  refine wpAny_bind (wpAny_dictEpoch a1 a3 (wpAny_bind ?_))
  have row : ∀ {xs : List (K × Addr × Value)} {es : Array DictEntry} {i : Nat} {x : K × Addr × Value}, es.toList = xs.map (entryOfKey knd) → xs[i]? = some x → es[i]? = some (entryOfKey knd x) := by
    intro xs es i x e g
    rw [← Array.getElem?_toList, e, List.getElem?_map, g]
    rfl
  refine SeqAt.wpAny_forIn_span 0 ea.size _ (fun _ c s' => c = (none, ()) ∧ s' = s) _ ?_ ?_ _ ⟨rfl, rfl⟩
  · rintro i c s' _ low ⟨rfl, rfl⟩
    obtain ⟨x, gx⟩ : ∃ x, ka[i]? = some x := ⟨_, List.getElem?_eq_getElem (na ▸ low)⟩
    obtain ⟨q, hq, same⟩ := hits x (List.mem_of_getElem? gx)
    refine wpAny_bind (wpAny_dictEntries a1 a3 ?_)
    rw [row a4 gx]
    dsimp only [entryOfKey]
    refine wpAny_bind (wpAny_holding (wpAny_bind (wpAny_dictFind_heap (k := x.1) room (a5 x (List.mem_of_getElem? gx)) b1 b3 b4 b5 b6 (fun none_there => ?_) fun j p gj => ?_)))
    · exact absurd (atKey_none_of_get none_there) (by rw [hq]; exact fun z => by cases z)
    · obtain rfl : p = q := Option.some.inj ((atKey_of_get b6 gj).symm.trans hq)
      refine wpAny_bind (wpAny_dictEntries b1 b3 ?_)
      rw [row b4 gj]
      refine wpAny_holding (same prog w _ _ ?_)
      rw [if_neg (by decide)]
      refine wpAny_bind (wpAny_dictEpoch a1 a3 ?_)
      rw [if_neg (by rw [bne_self_eq_false]; decide)]
      exact wpAny_pure ⟨rfl, rfl⟩
  · rintro c s' ⟨rfl, rfl⟩
    exact wpAny_pure h
theorem eq_dictT {a b : Addr} {ka kb : List (K × Addr × Value)} {Q : Value → Shared → Prop} (ha : (a == sysModules) = false) (hb : (b == sysModules) = false)
    (da : s.heap.DictOfH knd a ka) (db : s.heap.DictOfH knd b kb) (hu : A.units < cLine) (hu1 : knd.room A.in1) (hlen : ka.length = kb.length)
    (hits : ∀ p ∈ ka, ∃ q, atKey kb p.1 = some q ∧ SeqAt.EqAt A.in1 s p.2.2 q.2 true) (h : Q (.bool true) s) : wpAny (model prog w) A (compareOp .Eq (.ref a) (.ref b)) Q E s := by
  have dict_type : ∀ {d : Addr} {xs : List (K × Addr × Value)}, s.heap.DictOfH knd d xs → s.TypeIs (.ref d) "dict" := fun x => by
    obtain ⟨o, _, _, there, ex, _⟩ := x
    exact ⟨o, there, ex.1⟩
  have body : wpAny (model prog w) A.in1 (Builtin.«dict.__eq__» ⟨[.ref a, .ref b], []⟩) (fun fin s' => ∃ v, fin = .done (.ret v) ∧ v ≠ .notImplemented ∧ Q v s') E s := by
    obtain ⟨i1, i2, form⟩ : ∃ i1 i2 : String, Builtin.«dict.__eq__» ⟨[.ref a, .ref b], []⟩ = (do
        if !(← isInstance (.ref b) (.type "dict")) then rule i1; return ← ret .notImplemented
        ret (.bool ((← Builtin.Dict.samePairs i2 a b) == true))) := ⟨"dict." ++ "__eq__" ++ ".not-a-dict", "dict." ++ "__eq__", by kernel_rfl⟩
    rw [form]
    refine wpAny_bind (wpAny_isInstance (dict_type db) (b := true) (by kernel_rfl) ?_)
    rw [if_neg (by decide)]
    exact wpAny_bind (samePairs_at ha hb da db hu1 hlen hits (wpAny_pure ⟨_, rfl, Value.noConfusion, h⟩))
  refine wpAny_richCompare_same_or (op := .Eq) (dict_type da) (dict_type db) PySem.F.slot_dict_eq ?_ (Or.inr hu)
  exact wpAny_call_entry PySem.F.slot_dict_eq (dict_type da) PySem.F.entry_dict_eq body (PySem.F.args_dict_eq_2 _ _)
end
section
variable {X : Cx}
theorem kt_mem {H : Hp} {kvs : List (List Key × V)} {xs : List (List Key × Addr × Value)} (r : KT H kvs xs) : ∀ p ∈ xs, ∃ q ∈ kvs, q.1 = p.1 ∧ RelV q.2 p.2.2 := by
  induction r with
  | nil => intro p hp; exact nomatch hp
  | @cons p q ps qs h t ih =>
    intro x hx
    obtain e | hx := List.mem_cons.mp hx
    · subst e
      exact ⟨p, List.mem_cons_self, h.1, h.2.2⟩
    · obtain ⟨q', h1, h2⟩ := ih x hx
      exact ⟨q', List.mem_cons_of_mem _ h1, h2⟩
/-- == of two dicts with tuple keys that tell the same -/
def rEqDT : R2 := fun x y H Q => ∃ a b ks ls, x = .ref a ∧ y = .ref b ∧ H a = some (.dT ks) ∧ H b = some (.dT ls) ∧ ks.length = ls.length ∧ (∀ p ∈ ks, valV ls p.1 = some p.2 ∧ flatB p.2 = true) ∧ Q (.bl true) H
theorem op_eq_dictT (hu : X.A.units + 64 < cLine) : OpR X (compareOp .Eq) rEqDT := by
  rintro pins s σ H _ _ v u Q I rx ry ⟨a, b, ks, ls, rfl, rfl, at_a, at_b, len, all, q⟩
  rw [show v = .ref a from rx, show u = .ref b from ry]
  obtain ⟨_, sa, xa, pa, da⟩ := dt_of I.hok at_a
  obtain ⟨_, sb, xb, pb, db⟩ := dt_of I.hok at_b
  have few : X.A.units < cLine := by omega
  refine eq_dictT sa sb da db few ?_ (by rw [← pa.length, ← pb.length, len]) (fun p hp => ?_) ⟨.bl true, H, I, rfl, q⟩
  · show X.A.units + 1 < cLine
    omega
  · obtain ⟨r, hr, same_key, rv⟩ := kt_mem pa p hp
    obtain ⟨there, flat⟩ := all r hr
    have told := pb.val r.1
    rw [there, same_key] at told
    cases there2 : atKey xb p.1 with
    | none =>
      rw [there2] at told
      exact told.elim
    | some w =>
      rw [there2] at told
      exact ⟨w, rfl, eqAt_same rv told flat⟩
end
end L3
end
section
namespace L3
open PySem PySem.Spec PyProof.Rows PyProof.V PySem.Calls L2
/-- range(n) as a value -/
def rRng1 : List V → Hp → VK → Prop := fun vs H Q => ∃ j : Int, vs = [V.int j] ∧ ∀ p, H p = none → Q (.ref p) (upd H p (.rng 0 j))
theorem cr_range1 {X : Cx} : CallR X (.type "range") rRng1 := by
  rintro pins s σ H _ us Q I r ⟨j, rfl, q⟩
  cases r with
  | cons ri rr =>
    cases rr
    obtain ⟨t, rfl⟩ := ri
    refine call_range_1 ⟨.ref s.heap.objs.size, upd H s.heap.objs.size (.rng 0 j), I.laid (t' := s.toks + 1 + 1) (fun b o e => Heap.get?_push_of_some _ e) (Nat.le_refl _) ?_, rfl, q _ (I.hok.fresh (Nat.le_refl _))⟩
    exact ⟨_, _, _, Heap.get?_push_size _ rfl⟩
/-- a range object walked -/
def iRngV (te : TE) : TI := fun σ H R => te σ H fun x H1 => ∃ (a : Addr) (lo hi : Int), x = .ref a ∧ H1 a = some (.rng lo hi) ∧ -(2 ^ 62) ≤ lo ∧ lo < 2 ^ 62 ∧ -(2 ^ 62) ≤ hi ∧ hi < 2 ^ 62 ∧ R (Itr lo (hi - lo).toNat) H1
theorem pi_rngV {X : Cx} {tg e : Expr} {te : TE} (he : PE X e te) : PI X tg e (iRngV te) := by
  constructor
  intro pins s σ H R I h
  refine thn (he.run pins s σ H _ I h) fun v s1 came => ?_
  obtain ⟨x, H1, I1, r, a, lo, hi, rfl, at_a, l1, l2, h1, h2, q⟩ := came
  obtain rfl : v = .ref a := r
  obtain ⟨t, u, z, is_range⟩ := I1.hok a _ at_a
  have small : Builtin.Range.small lo hi 1 = true := small_one l1 l2 h1 h2
  have many : Builtin.Range.rangeSize lo hi 1 = (((hi - lo).toNat : Nat) : Int) := by
    simp [Builtin.Range.rangeSize]
    omega
  refine range_begins is_range small many fun h' it _ keep => ?_
  have le : s1.heap.objs.size ≤ s1.heap.objs.size := Nat.le_refl _
  refine ⟨s1.heap.objs.size, [s1.heap.objs.size], _, _, H1, rfl, I1.turnedL (t' := s1.toks) (ch := []) (fun b o _ => keep b o) (fun b hb => nomatch hb), turn_range _ lo (hi - lo).toNat, ?_, fun b hb => ?_, q⟩
  · simpa using it
  · exact (List.mem_singleton.mp hb) ▸ I1.fpOk le (I1.hok.fresh le)
end L3
end
section
namespace L3
open PySem PySem.Spec PyProof.Rows PyProof.V PySem.Calls L2
section
variable {P : Program} {w : World} {A : Around} {s : Shared} {E : Value → Shared → Prop}
open PySem.Builtin.Frozenset in
/-- set(l), l a list of ints -/
theorem call_set_listI {l : Addr} {items : Array Value} (ns : List Int) {Q : Value → Shared → Prop} (hh : A.handled = none) (hl : s.heap.IsList l items) (hit : IntsAre items.toList ns) (hb : ns.length + 1 < scanBound)
    (h : ∀ (h' : Heap) (tk c : Nat),
      SetR w h' s.heap.objs.size (fun j => decide (j ∈ ns)) c → c ≤ ns.length → (∀ b o, s.heap.get? b = some o → h'.get? b = some o) → Q (.ref s.heap.objs.size) { s with heap := h', toks := tk }) :
    wpAny (model P w) A (call (.type "set") ([.ref l])) Q E s := by
  obtain ⟨N, hN⟩ : ∃ N, N = s.heap.objs.size := ⟨_, rfl⟩
  obtain ⟨fresh, hF⟩ : ∃ o : Obj, o = { cls := .type "set", dict := none, data := .set #[] 0 (.fresh 0 0 (!w.params.followText "set-order")) } := ⟨_, rfl⟩
  have there : (s.heap.push fresh).get? N = some fresh := by rw [hN]; exact Heap.get?_push_size s.heap (by rw [hF]; rfl)
  obtain ⟨ol, l1, l2, nl, l3⟩ := hl
  have l_old := Heap.get?_push_of_some fresh l1
  have old : ∀ b o, s.heap.get? b = some o → (s.heap.push fresh).get? b = some o := fun b o e => Heap.get?_push_of_some fresh e
  have ft := PySem.F.called_set
  apply wpAny_call
  apply codeAny_of_tree
  show wpAny (model P w) _ (callAny (.type "set") ⟨[.ref l], []⟩) _ _ s
  refine wpAny_pure ⟨by kernel_rfl, codeAny_builtin (id := "type.__call__") (b := Builtin.«type.__call__») (by kernel_rfl) ?_⟩
  unfold Builtin.«type.__call__»; dsimp only
  rw [if_neg (by decide)]
  obtain ⟨c, tl, mro⟩ := ft.mro
  rw [if_neg (by rw [ft.canCreate]; decide), PySem.F.typeCall_set_1, mro, ft.made]
  refine wpAny_bind (wpAny_pure (wpAny_bind (m := pure _) (wpAny_pure ?_)))
  rw [List.isEmpty_cons, if_neg Bool.false_ne_true]
  refine wpAny_bind (wpAny_pure (wpAny_bind (wpAny_pure (wpAny_bind (wpAny_holding ?_)))))
  have none_yet : SetR w (s.heap.push fresh) N (fun _ => false) 0 := by
    rw [hN, hF]; exact setR_fresh w
  have set_type : ({ s with heap := s.heap.push fresh } : Shared).TypeIs (.ref N) "set" := ⟨fresh, there, by rw [hF]⟩
  have list_type : ({ s with heap := s.heap.push fresh } : Shared).TypeIs (.ref l) "list" := ⟨ol, l_old, l2⟩
  have name : ∀ (A : Around) (E' : Value → Shared → Prop) (Q' : String → Shared → Prop), Q' "set" { s with heap := s.heap.push fresh } → wpAny (model P w) A (typeNameOfCut 200 (.ref N)) Q' E' { s with heap := s.heap.push fresh } := by
    intro A' E' Q' q
    unfold typeNameOfCut; unfold shownTypeOf
    refine wpAny_bind (wpAny_bind (wpAny_typeOf set_type ?_))
    rw [if_neg (by decide)]
    exact wpAny_pure (wpAny_pure q)
  have empty : fresh.data = .set #[] 0 (.fresh 0 0 (!w.params.followText "set-order")) := by rw [hF]
  have fit : (SetTable.fresh 0 0 (!w.params.followText "set-order")).fits (#[] : Array (Int × Value)).size = true := rfl
  have unused : ∀ (A : Around) (E' : Value → Shared → Prop) (Q' : Bool → Shared → Prop), Q' false { s with heap := s.heap.push fresh } → wpAny (model P w) A (setUsed N) Q' E' { s with heap := s.heap.push fresh } := by
    intro A' E' Q' q
    unfold setUsed
    exact wpAny_bind (wpAny_setState_of there empty fit (wpAny_pure q))
  have no_set : ∀ (A : Around) (E' : Value → Shared → Prop) (Q' : Bool → Shared → Prop), Q' false { s with heap := s.heap.push fresh } → wpAny (model P w) A (isAnySet (.ref l)) Q' E' { s with heap := s.heap.push fresh } := by
    intro A' E' Q' q
    unfold isAnySet orM
    exact wpAny_bind (wpAny_isInstance (U := "set") (b := false) list_type (by kernel_rfl) (wpAny_isInstance (U := "frozenset") (b := false) list_type (by kernel_rfl) q))
  refine wpAny_call (codeAny_mono (code_set_led1 (E := fun _ _ => False) (.ref l) (Q₁ := fun obj s1 => obj = .ref N ∧ s1 = { s with heap := s.heap.push fresh }) ⟨by rw [hN], by rw [hF]⟩) fun r s1 z => ?_)
  match r, z with
  | .ok (.ret v), z =>
    obtain ⟨rfl, rfl⟩ := z
    refine wpAny_bind (wpAny_isInstance set_type ft.sub ?_)
    rw [if_neg (by decide)]
    refine wpAny_bind (wpAny_holding (wpAny_callSpecial?_slot set_type PySem.F.slot_set_init (wpAny_call (codeAny_of_tree ?_))))
    show wpAny (model P w) _ (callAny (.builtin "set.__init__") ⟨[.ref N, .ref l], []⟩) _ _ _
    refine wpAny_bind (PySem.check_set_init_1 set_type (wpAny_pure ⟨by kernel_rfl, codeAny_builtin PySem.F.entry_set_init ?_⟩))
    unfold Builtin.«set.__init__»
    apply wpAny_bind (wpAny_pure _)
    dsimp only
    refine wpAny_bind (name _ _ _ (wpAny_bind (wpAny_pure (wpAny_bind (wpAny_pure (wpAny_bind (unused _ _ _ ?_)))))))
    rw [if_neg (by decide)]
    unfold updateFrom
    refine wpAny_bind ?_
    refine wpAny_bind (no_set _ _ _ ?_)
    rw [if_neg (by decide)]
    refine wpAny_bind (wpAny_typeOf list_type ?_)
    rw [if_neg (by decide)]
    refine wpAny_bind (wpAny_pyIter_list ⟨ol, l_old, l2, nl, l3⟩ ?_)
    have many : items.size = ns.length := by
      rw [← Array.length_toList]; exact hit.length
    have it_at : (s.heap.push fresh).objs.size ≠ l ∧ (s.heap.push fresh).objs.size ≠ N := ⟨Nat.ne_of_gt (Heap.lt_size l_old), Nat.ne_of_gt (Heap.lt_size there)⟩
    have lN : l ≠ N := hN ▸ Nat.ne_of_lt (Heap.lt_size l1)
    have out_of_reach : N ∉ [(s.heap.push fresh).objs.size, l] := fun z => (List.mem_cons.mp z).elim (fun e => it_at.2 e.symm) fun e => lN (List.mem_singleton.mp e).symm
    have W := (Walks.list (prog := P) (w := w) (A := ((A.under (.builtin "type.__call__" ⟨[.type "set", .ref l], []⟩)).under (.builtin "set.__init__" ⟨[.ref N, .ref l], []⟩)).in1) hh (s.heap.push fresh).objs.size l it_at.1.symm items).toS
    refine wpAny_bind (wpAny_runValue (set_update_ints W N out_of_reach ns many hb (fun i v z => ?_) items.size 0 _ (Nat.sub_zero _) (Nat.zero_le _) ⟨⟨_, Heap.get?_push_size _ rfl, rfl, rfl⟩, ol, Heap.get?_push_of_some _ l_old, l2, nl, l3⟩ ⟨0, Nat.le_refl 0, (none_yet.at fun o e => Heap.get?_push_of_some _ e).congr fun j => by simp⟩ fun s' c moved le R => ?_))
    · have low : i < ns.length := many ▸ (Array.getElem?_eq_some_iff.mp z).1
      have told : (ns.map V.int)[i]? = some (.int ns[i]) := by rw [List.getElem?_map, List.getElem?_eq_getElem low]; rfl
      obtain ⟨u, at_i, k, is⟩ := (vals_of_ints hit).get told
      rw [Array.getElem?_toList, z] at at_i
      exact ⟨_, k, List.getElem?_eq_getElem low, (Option.some.inj at_i).trans is⟩
    · have shape : s' = { s with heap := s'.heap, toks := s'.toks } := by
        obtain ⟨h1, g1, d1, n1, o1⟩ := s'
        have g := moved.gens
        have d := moved.drawn
        have o := moved.os
        dsimp only at g d o
        subst g d o
        rfl
      have keep : ∀ b o, s.heap.get? b = some o → s'.heap.get? b = some o := fun b o e => by
        refine moved.heap b o ?_ (Heap.get?_push_of_some _ (old b o e))
        intro z
        have low := Heap.lt_size e
        obtain z | z := List.mem_cons.mp z
        · exact absurd low (by rw [z, hN]; exact Nat.lt_irrefl _)
        · refine absurd low ?_
          rw [List.mem_singleton.mp z]
          simp [Heap.push]
      rw [hN] at R
      have q := h s'.heap s'.toks c R (many ▸ le) keep
      rw [← hN, ← shape] at q
      apply wpAny_pure; apply wpAny_pure
      show wpAny (model P w) _ (if (Value.none != Value.none) = true then _ else _) _ _ s'
      rw [if_neg (by decide)]
      exact wpAny_pure q
end
section
variable {X : Cx}
def rSetOfL (K : PySem.W.Frag) (w : World) : List V → Hp → VK → Prop := fun vs H Q => ∃ (l : Addr) (ns : List Int), vs = [.ref l] ∧ SqL K H l (ns.map V.int) ∧ ns.length ≤ 1000 ∧ ∀ (p : Addr) (c : Nat), H p = none → c ≤ ns.length → Q (.ref p) (upd H p (SetO w p (fun j => decide (j ∈ ns)) c))
theorem cr_setOfL (hc : X.calm = true) : CallR X (.type "set") (rSetOfL X.K X.w) := by
  rintro pins s σ H _ us Q I r ⟨l, ns, rfl, sq, few, q⟩
  obtain ⟨its, rv, pl, _⟩ := I.list sq
  rw [Vals.ref1 r]
  have small : ns.length + 1 < scanBound := Nat.lt_of_le_of_lt (Nat.succ_le_succ few) (by decide)
  exact call_set_listI ns (I.ok.hd hc) pl.isList (ints_of_vals rv) small fun h' n c R le keep => set_came (d := s.drawn) I keep (Nat.le_refl _) R fun free => q _ _ free le
end
end L3
end
section
namespace W7
open PySem PySem.Spec PyProof.Rows L2 L3 Evl
open C8 (Cal pe_c Mak pe_mk Met pe_mt pe_mt0)
/-- a def that may be called by its name, n values and keywords -/
structure CalK (P : Program) (w : World) (K : PySem.W.Frag) (mg : Str → Option Value) (base : Heap) (k : Nat) (x : Str) (sp : Sp) (n : Nat) (ks : List Str) (gV : List V → List V → List V) : Prop where
  ex : ∃ (f : Addr) (fd : FuncData) (ps : List Str) (g : List Value → List Value → List Value), FnOk P w K mg base CX0 k f fd ps sp ∧ mg x = some (.ref f) ∧ PySem.W.keepIn K (.ref f) = true ∧ KBn K fd ps n ks g gV
section
variable {X : Cx} {k j n : Nat} {x : Str} {sp : Sp} {p pos : Pos} {e : Expr} {es : List Expr} {kws : List Keyword} {t tk : TA} {ks : List Str} {gV : List V → List V → List V}
/-- a call with one or more places, and keywords -/
theorem pe_ck (c : CalK X.prog X.w X.K X.mg X.base k x sp n ks gV) (hr : Room j X.A) (hk : k ≤ j) (hg : Gl X x) (ha : PA X (e :: es) t) (hkw : PK X kws tk) (named : (backToKw pos (keywordEach kws X.env)).all (·.1.isSome) = true := by rfl)
    (names : (backToKw pos (keywordEach kws X.env)).filterMap (·.1) = ks := by rfl) (dbg : (x == ("__debug__" : Str)) = false := by decide) (each : starEach (e :: es) X.env = (false, eval e X.env) :: starEach es X.env := by rfl)
    (plain : ((backTo pos (starEach (e :: es) X.env)).any (·.1) || (backToKw pos (keywordEach kws X.env)).any (·.1.isNone)) = false := by rfl) : PE X (.Call (.Name x p) (e :: es) kws pos) (tCallN n ks.length sp gV C8.E0 t tk) := by
  obtain ⟨f, fd, ps, g, F, there, keep, binds⟩ := c.ex
  exact pe_callN F (hr.mono hk) hg there keep binds C8.pass0 ha hkw named names dbg each plain
end
section
variable {K : PySem.W.Frag} {σ : L2.St} {H : Hp} {ta tb te tl : TE} {v : V} {tt : TT}
theorem el_catLL {xs ys : List V} (ha : EvL ta σ H xs) (hb : EvL tb σ H ys) (hz : xs.length + ys.length ≤ 100000) : EvL (tOp rCat ta tb) σ H (xs ++ ys) := fun H1 e Q q => ha H1 e _ fun p H2 hp e2 h2 => hb H2 (e.trans e2) _ fun p2 H3 hp2 e3 h3 => ⟨p, p2, xs, ys, rfl, rfl, e3 _ _ h2, h3, sz_of hz, fun r hr => q r _ (fresh_back (e2.trans e3) hr) ((e2.trans e3).trans (Ex.new hr)) upd_same⟩
theorem el_catVL {a : Addr} {xs ys : List V} (ha : Ev ta σ H (.ref a)) (hx : H a = some (.lst xs)) (hb : EvL tb σ H ys) (hz : xs.length + ys.length ≤ 100000) : EvL (tOp rCat ta tb) σ H (xs ++ ys) := fun H1 e Q q => ha H1 e _ fun H2 e2 => hb H2 (e.trans e2) _ fun p2 H3 hp2 e3 h3 => ⟨a, p2, xs, ys, rfl, rfl, e3 _ _ (e2 _ _ (e _ _ hx)), h3, sz_of hz, fun r hr => q r _ (fresh_back (e2.trans e3) hr) ((e2.trans e3).trans (Ex.new hr)) upd_same⟩
/-- [f(n) for n in ns if t], each element some new tuple: how many -/
theorem el_cnt {ns : List Nat} {j : Nat} {vs : List Nat} (F : Nat → Bool) (h : EvL tl σ H (nv ns)) (hz : ns.length ≤ 40000) (hw : ∀ x, wipe ((wipe σ vs).set j (some x)) vs = wipe σ vs)
    (ht : ∀ (n : Nat) H1, Ex H H1 → n ∈ ns → EvT tt ((wipe σ vs).set j (some (.int (n : Nat)))) H1 (F n))
    (he : ∀ (n : Nat) H1, Ex H H1 → n ∈ ns → ∃ T, EvU te ((wipe σ vs).set j (some (.int (n : Nat)))) H1 (nv T)) :
    ∀ H1, Ex H H1 → ∀ Q : VK, (∀ p rs H2, H1 p = none → Ex H1 H2 → H2 p = some (.lst rs) → rs.length = (ns.filter F).length → Q (.ref p) H2) → tLc (iList K tl) (gName j) tt te vs σ H1 Q := fun H0 e Q q => h H0 e _ fun a H1 ha e1 hx => ⟨a, rfl, ⟨nv ns, sq_of hx⟩, fun Dl hD =>
  lc_list (xs := nv ns) (fun i H' => H1 Dl = none ∧ Ex H1 H' ∧ ∃ rs, H' Dl = some (.lst rs) ∧ rs.length = ((ns.take i).filter F).length) ⟨hD, Ex.new hD, [], upd_same, rfl⟩ (fun i H' _ p => sq_of (p.2.1 _ _ hx)) (fun i x H' hi ⟨p1, p2, rs, p3, p4⟩ => ⟨hw x, by
    obtain ⟨n, hn, rfl⟩ := nv_get hi
    have hl := (List.getElem?_eq_some_iff.mp hn).1
    have hm := List.mem_of_getElem? hn
    have lenb : rs.length ≤ i := by
      rw [p4]
      exact Nat.le_trans (List.length_filter_le _ _) (by rw [List.length_take]; omega)
    refine ht n H' ((e.trans e1).trans p2) hm H' (Ex.refl _) _ fun H3 e3 => ?_
    have htk : ns.take (i + 1) = ns.take i ++ [n] := by rw [List.take_add_one, hn]; rfl
    cases hf : F n with
    | true =>
      show te _ H3 _
      obtain ⟨T, hT⟩ := he n H' ((e.trans e1).trans p2) hm
      refine hT H3 e3 _ fun b H4 hb e4 h4 => ⟨rs, e4 _ _ (e3 _ _ p3), sz_lt (by omega), p1, Ex.mut (p2.trans (e3.trans e4)) p1, rs ++ [.ref b], upd_same, ?_⟩
      rw [htk, List.filter_append, List.length_append, List.length_append, p4, List.filter_cons, if_pos hf]
      rfl
    | false =>
      show _ ∧ _ ∧ _
      refine ⟨p1, p2.trans e3, rs, e3 _ _ p3, ?_⟩
      rw [htk, List.filter_append, List.length_append, List.filter_cons, if_neg (by rw [hf]; decide), p4]
      rfl⟩) (fun H' ⟨p1, p2, rs, p3, p4⟩ => q Dl rs H' (fresh_back e1 p1) (e1.trans p2) p3 (by rw [nv_len, List.take_length] at p4; exact p4))⟩
end
/-- the masks in the order of the lots -/
def ordK (size : Nat) : Nat → List Nat
  | 0 => [0]
  | i + 1 => [0] ++ (ordK size i).map (fun m => m ||| (1 <<< (size - 1 - i))) ++ (ordK size i).drop 1
def ordF (size : Nat) : List Nat := ordK size size
theorem ord_ok : ∀ size : Nat, size < 6 → (∀ n : Nat, n < 1 <<< size → n ∈ ordF size) ∧ (∀ n ∈ ordF size, n < 1 <<< size) ∧ (∀ i : Nat, i < size + 1 → (ordK size i).length ≤ 64) := by decide +kernel
section
variable {P : Program} {w : World} {K : PySem.W.Frag} {mg : Str → Option Value} {base : Heap} {f : Addr} {fd : FuncData} {CF CA : Addr}
def spTwo : Sp := fun vs H Q _ => ∃ x y size : Nat, vs = [.int x, .int y, .int size] ∧ x < size ∧ y < size ∧ x ≠ y ∧ RetV .non H Q
theorem sc_check_two : FnScope ["thing", "other", "size"] ["thing", "other", "size"] (defScope (top 19)) := ⟨rfl, rfl, rfl, by decide +kernel, rfl, by decide +kernel, by decide +kernel⟩
theorem c_check_two (F : FnP K "check_two" (top 19) f fd) (g : mg "check_two" = some (.ref f)) (B : Bi mg) (c_check_thing : Cal P w K mg base 3 "check_thing" spChkThing []) : Cal P w K mg base 4 "check_two" spTwo [] := by
  refine mkCal F g sc_check_two (fun _ _ _ _ _ _ us hl => match us, hl with | [_, _, _], _ => rfl) (fun vs H Q E h => ?_) (fun cdv A outer s H vs Q E hr h => ?_)
  · obtain ⟨x, y, size, rfl, _⟩ := h
    rfl
  · obtain ⟨x, y, size, rfl, hx, hy, hne, q⟩ := h
    refine ⟨_, (pss_cons (ps_expr (pe_c c_check_thing hr (by decide) rfl (pa_cons (pv 0) (pa_cons (pv 2) pa_nil)))) (pss_one (ps_if (pt_cmpR on_eq (pe_c c_check_thing hr (by decide) rfl (pa_cons (pv 1) (pa_cons (pv 2) pa_nil))) (pv 0) (nomark _)) (pss_one ps_never) pss_nil))), ?_⟩
    refine q_drop (ev_call (ea_cons (ev_v 0) (ea_cons (ev_v 2) ea_nil)) fun H2 e2 Q2 q2 E2 => ⟨x, size, rfl, hx, q2⟩) fun H1 e1 => ?_
    refine s_when (b := decide (y = x)) (et_test (ev_n (ev_call (z := .int (y : Nat)) (ea_cons (ev_v 1) (ea_cons (ev_v 2) ea_nil)) fun H2 e2 Q2 q2 E2 => ⟨y, size, rfl, hy, q2⟩) (ev_v 0))) (fun hb => absurd (of_decide_eq_true hb) fun e => hne e.symm) (fun _ H2 e2 => q H2 (e1.trans e2))
def spOrd : Sp := fun vs H Q _ => ∃ size : Nat, vs = [.int size] ∧ size ≤ 5 ∧ RetL (nv (ordF size)) H Q
theorem sc_ordered_masks : FnScope ["size", "masks", "thing", "mask"] ["size"] (defScope (top 24)) := ⟨rfl, rfl, rfl, by decide +kernel, rfl, by decide +kernel, by decide +kernel⟩
theorem c_ordered_masks (F : FnP K "ordered_masks" (top 24) f fd) (g : mg "ordered_masks" = some (.ref f)) (B : Bi mg) : Cal P w K mg base 1 "ordered_masks" spOrd [] := by
  refine mkCal F g sc_ordered_masks (fun _ _ _ _ _ _ us hl => match us, hl with | [_], _ => rfl) (fun vs H Q E h => ?_) (fun cdv A outer s H vs Q E hr h => ?_)
  · obtain ⟨size, rfl, _⟩ := h
    rfl
  · obtain ⟨size, rfl, hz, q⟩ := h
    have hord := ord_ok size (by omega)
    refine ⟨_, (pss_cons (ps_set (i := 1) sc_ordered_masks.nd rfl (by first | exact Or.inl rfl | exact Or.inr rfl) (pe_lst (pa_cons (pe_nat 0 pe_int) pa_nil))) (pss_cons (ps_for PassesOwn.never rfl (pi_revR rfl B.reversed (prg_1 rfl B.range (pv 0))) (pg_name (i := 2) sc_ordered_masks.nd rfl (by first | exact Or.inl rfl | exact Or.inr rfl)) (pss_one (ps_set (i := 1) sc_ordered_masks.nd rfl (by first | exact Or.inl rfl | exact Or.inr rfl) (pe_op op_cat (pe_op op_cat (pe_lst (pa_cons (pe_nat 0 pe_int) pa_nil)) (pe_lc (own := [("mask", 3)]) (g := gName 3) (by rfl) sc_ordered_masks.nd (pi_list (pv 1)) (blkOk_by (own := [("mask", 3)]) (N := ["size", "masks", "thing", "mask"]) (sc := defScope (top 24)) (by decide +kernel)) (fun _ _ _ _ _ => (pg_name (i := 3) sc_ordered_masks.nd rfl (by first | exact Or.inl rfl | exact Or.inr rfl))) (fun _ _ _ _ _ => pts_nil) (fun _ _ _ _ _ => (pe_op on_or (pv 3) (pe_op on_shl (pe_nat 1 pe_int) (pv 2)))))) (pe_slice sl_list (pv 1) (po_some (pe_nat 1 pe_int)) po_none))))) (pss_one (ps_ret (pv 1))))), ?_⟩
    refine q_asgL (el_lst (ea_cons ev_c ea_nil) (by show 1 ≤ 100000; decide)) fun m0 H1 hm0 e1 h1 => ?_
    refine ⟨.int size, rfl, _, rfl, by omega, by omega, by omega, by omega, for_rangeC (fun i σ H' => Ex H H' ∧ ∃ c v2 v3, H c = none ∧ H' c = some (.lst (nv (ordK size i))) ∧ σ = [some (.int size), some (.ref c), v2, v3]) ⟨e1, m0, _, _, hm0, h1, rfl⟩ ?_ ?_⟩
    · rintro i σ H' hi ⟨e0, c, v2, v3, hc, h2, rfl⟩
      have his : i < size := by omega
      have eth : (0 : Int) + (((((size : Int) - 0).toNat : Nat) : Int)) - 1 + ((i : Nat) : Int) * (-1) = ((size - 1 - i : Nat) : Int) := by omega
      rw [eth]
      show tAsg _ _ _ [some (.int size), some (.ref c), some (.int ((size - 1 - i : Nat) : Int)), v3] H'
      have hl := hord.2.2 i (by omega)
      have em := el_nats (K := K) (tl := tVar 1) (te := tOp (rN0 fun a b => .int ((a ||| b : Nat) : Int)) (tVar 3) (tOp (rN (fun a b => a < 64 ∧ b < 64) fun a b => .int ((a <<< b : Nat) : Int)) (tC (.int ((1 : Nat) : Int))) (tVar 2))) (t := tYes) (j := 3) (vs := [3]) (a := c) (ns := ordK size i) (σ := [some (.int size), some (.ref c), some (.int ((size - 1 - i : Nat) : Int)), v3]) (H := H') (fun _ => true) (fun m => .int ((m ||| (1 <<< (size - 1 - i)) : Nat) : Int)) (ev_v 1) (sq_of h2) (by omega) (fun _ => rfl) (fun _ _ _ _ => et_yes) (fun m H3 e3 hm _ => ev_n (ev_v 3) (ev_nc ev_c (ev_v 2) ⟨by decide, by omega⟩))
      rw [List.filter_eq_self.mpr (fun _ _ => rfl), show (ordK size i).map (fun m => V.int ((m ||| (1 <<< (size - 1 - i)) : Nat) : Int)) = nv ((ordK size i).map fun m => m ||| (1 <<< (size - 1 - i))) from by unfold nv; rw [List.map_map]; rfl] at em
      have ed := el_sl (K := K) (te := tVar 1) (σ := [some (.int size), some (.ref c), some (.int ((size - 1 - i : Nat) : Int)), v3]) (tl := tPart (tC (.int ((1 : Nat) : Int)))) (th := tNoPart) (ev_v 1) (eo_some (i := 1) ev_c) eo_none (sq_of h2)
      have ec : cutV (nv (ordK size i)) (some 1) none = nv ((ordK size i).drop 1) := by
        unfold cutV
        have h0 : HT.sIx (nv (ordK size i)).length 0 (some 1) = 1 ∨ (nv (ordK size i)).length = 0 := by
          cases h : (nv (ordK size i)).length with
          | zero => exact .inr rfl
          | succ n => exact .inl (by simp [HT.sIx])
        rcases h0 with h0 | h0
        · rw [h0]
          have h1 : HT.sIx (nv (ordK size i)).length (nv (ordK size i)).length none = (nv (ordK size i)).length := rfl
          rw [h1, List.take_of_length_le (by rw [List.length_drop]; omega)]
          unfold nv
          rw [List.map_drop]
        · have h1 := List.eq_nil_of_length_eq_zero h0
          rw [nv_len] at h0
          rw [h1, List.eq_nil_of_length_eq_zero h0]
          rfl
      rw [ec] at ed
      have lm : (nv ((ordK size i).map fun m => m ||| (1 <<< (size - 1 - i)))).length ≤ 64 := by rw [nv_len, List.length_map]; exact hl
      have ld : (nv ((ordK size i).drop 1)).length ≤ 64 := by rw [nv_len, List.length_drop]; omega
      have e3 := el_catLL (el_catLL (el_lst (vs := [.int ((0 : Nat) : Int)]) (ea_cons ev_c ea_nil) (by show 1 ≤ 100000; decide)) em (by simp only [List.length_cons, List.length_nil]; omega)) ed (by simp only [List.length_append, List.length_cons, List.length_nil]; omega)
      refine s_asgL e3 fun d H3 hd e3 h3 => ⟨e0.trans e3, d, _, _, fresh_back e0 hd, ?_, rfl⟩
      rw [h3]
      show _ = some (HO.lst (nv ([0] ++ (ordK size i).map (fun m => m ||| (1 <<< (size - 1 - i))) ++ (ordK size i).drop 1)))
      unfold nv
      rw [List.map_append, List.map_append]
      rfl
    · rintro σ H' ⟨e0, c, v2, v3, hc, h2, rfl⟩
      have e : ((size : Int) - 0).toNat = size := by omega
      rw [e] at h2
      exact s_ret (ev_v 1) fun H2 e3 => q c H2 hc (e0.trans e3) (e3 _ _ h2)
end
end W7
end
section
namespace W7
open PySem PySem.Spec PyProof.Rows L2 L3 Evl
open C8 (Cal pe_c Mak pe_mk Met pe_mt pe_mt0)
def bondB (fm : List Nat) (m x y : Nat) : Bool := !decide (m ∈ fm) && (decide ((m ^^^ (1 <<< x)) ∈ fm) && decide ((m ^^^ (1 <<< y)) ∈ fm))
def sameB (m x y : Nat) : Bool := decide ((m >>> x) &&& 1 = (m >>> y) &&& 1)
def sortV (m x y : Nat) : V := if sameB m x y then .str "rivals" else .str "mates"
def selB (s : Str) (m x y : Nat) : Bool := inV (.str s) [.str "both", sortV m x y]
theorem sel_both (m x y : Nat) : selB "both" m x y = true := by unfold selB sortV; cases sameB m x y <;> decide
theorem sel_riv (m x y : Nat) : selB "rivals" m x y = sameB m x y := by unfold selB sortV; cases sameB m x y <;> decide
theorem sel_mat (m x y : Nat) : selB "mates" m x y = !sameB m x y := by unfold selB sortV; cases sameB m x y <;> decide
def rivB (size : Nat) (fm : List Nat) (x y : Nat) : Bool := (List.range (1 <<< size)).any fun m => bondB fm m x y && sameB m x y
def mateB (size : Nat) (fm : List Nat) (x y : Nat) : Bool := (List.range (1 <<< size)).any fun m => bondB fm m x y && !sameB m x y
def bndB (size : Nat) (fm : List Nat) (x y : Nat) : Bool := (List.range (1 <<< size)).any fun m => bondB fm m x y
theorem ord_any {size : Nat} (h5 : size ≤ 5) {F G : Nat → Bool} (h : ∀ m, F m = G m) : decide (0 < ((ordF size).filter F).length) = (List.range (1 <<< size)).any G := by
  obtain ⟨h1, h2, _⟩ := ord_ok size (by omega)
  rw [Bool.eq_iff_iff, decide_eq_true_eq, List.any_eq_true, List.length_pos_iff_exists_mem]
  constructor
  · rintro ⟨m, hm⟩
    obtain ⟨a, b⟩ := List.mem_filter.mp hm
    exact ⟨m, List.mem_range.mpr (h2 m a), by rw [← h]; exact b⟩
  · rintro ⟨m, a, b⟩
    exact ⟨m, List.mem_filter.mpr ⟨h1 m (List.mem_range.mp a), by rw [h]; exact b⟩⟩
section
variable {P : Program} {w : World} {K : PySem.W.Frag} {mg : Str → Option Value} {base : Heap} {f : Addr} {fd : FuncData} {CF CA : Addr}
def spBonded (K : PySem.W.Frag) : Sp := fun vs H Q _ => ∃ (p : Addr) (size : Nat) (fm : List Nat) (m x y : Nat), vs = [.ref p, .int m, .int x, .int y] ∧ size ≤ 5 ∧ SqL K H p (bv (insF size fm)) ∧ m < 1 <<< size ∧ x < size ∧ y < size ∧ RetV (.bl (bondB fm m x y)) H Q
theorem sc_is_bonded : FnScope ["inside", "mask", "x", "y"] ["inside", "mask", "x", "y"] (defScope (top 57)) := ⟨rfl, rfl, rfl, by decide +kernel, rfl, by decide +kernel, by decide +kernel⟩
theorem c_is_bonded (F : FnP K "is_bonded" (top 57) f fd) (g : mg "is_bonded" = some (.ref f)) (B : Bi mg) : Cal P w K mg base 1 "is_bonded" (spBonded K) [] := by
  refine mkCal F g sc_is_bonded (fun _ _ _ _ _ _ us hl => match us, hl with | [_, _, _, _], _ => rfl) (fun vs H Q E h => ?_) (fun cdv A outer s H vs Q E hr h => ?_)
  · obtain ⟨p, size, fm, m, x, y, rfl, _⟩ := h
    rfl
  · obtain ⟨p, size, fm, m, x, y, rfl, hz, hp, hm, hx, hy, q⟩ := h
    refine ⟨_, (pss_one (ps_ret (pe_and (pe_not (pe_ix (on_ix (K := K)) (pv 0) (pv 1) (fun _ _ => rfl))) (pe_and (pe_ix (on_ix (K := K)) (pv 0) (pe_op on_xor (pv 1) (pe_op on_shl (pe_nat 1 pe_int) (pv 2))) (fun _ _ => rfl)) (pe_one (pe_ix (on_ix (K := K)) (pv 0) (pe_op on_xor (pv 1) (pe_op on_shl (pe_nat 1 pe_int) (pv 3))) (fun _ _ => rfl))))))), ?_⟩
    exact s_ret (ev_andV (ev_notV (ev_ix hp (ev_v 0) (ev_v 1) (insF_get hm))) fun _ => ev_andV (ev_ix hp (ev_v 0) (ev_n (ev_v 1) (ev_nc ev_c (ev_v 2) ⟨by decide, by omega⟩)) (insF_get (xor_lt_sh hm (one_lt_sh hx)))) fun _ => ev_ix hp (ev_v 0) (ev_n (ev_v 1) (ev_nc ev_c (ev_v 3) ⟨by decide, by omega⟩)) (insF_get (xor_lt_sh hm (one_lt_sh hy)))) q
def spSortB : Sp := fun vs H Q _ => ∃ (m x y : Nat), vs = [.int m, .int x, .int y] ∧ RetV (sortV m x y) H Q
theorem sc_bond_sort : FnScope ["mask", "x", "y"] ["mask", "x", "y"] (defScope (top 58)) := ⟨rfl, rfl, rfl, by decide +kernel, rfl, by decide +kernel, by decide +kernel⟩
theorem c_bond_sort (F : FnP K "bond_sort" (top 58) f fd) (g : mg "bond_sort" = some (.ref f)) (B : Bi mg) : Cal P w K mg base 1 "bond_sort" spSortB [] := by
  refine mkCal F g sc_bond_sort (fun _ _ _ _ _ _ us hl => match us, hl with | [_, _, _], _ => rfl) (fun vs H Q E h => ?_) (fun cdv A outer s H vs Q E hr h => ?_)
  · obtain ⟨m, x, y, rfl, _⟩ := h
    rfl
  · obtain ⟨m, x, y, rfl, q⟩ := h
    refine ⟨_, (pss_one (ps_ret (pe_ifExp (pt_cmpR on_eq (pe_op on_and (pe_op on_shr (pv 0) (pv 1)) (pe_nat 1 pe_int)) (pe_op on_and (pe_op on_shr (pv 0) (pv 2)) (pe_nat 1 pe_int)) (nomark _)) pe_str pe_str))), ?_⟩
    exact s_ret (ev_if (b := sameB m x y) (et_test (ev_n (ev_n (ev_n (ev_v 0) (ev_v 1)) ev_c) (ev_n (ev_n (ev_v 0) (ev_v 2)) ev_c))) (fun h => by unfold sortV; rw [h]; exact ev_c) (fun h => by unfold sortV; rw [h]; exact ev_c)) q
/-- the number of the lots with a bond -/
def spBL (CF : Addr) : Sp := fun vs H Q _ => ∃ (a : Addr) (size : Nat) (fm : List Nat) (x y : Nat) (s : Str), vs = [.ref a, .int x, .int y, .str s] ∧ FamAt H CF a size fm ∧ FamOk size fm ∧ x < size ∧ y < size ∧ x ≠ y ∧ inV (.str s) [.str "rivals", .str "mates", .str "both"] = true ∧
  ∀ p rs H', H p = none → Ex H H' → H' p = some (.lst rs) → rs.length = ((ordF size).filter fun m => bondB fm m x y && selB s m x y).length → Q (.ref p) H'
abbrev FnB (K : PySem.W.Frag) (st : Stmt) (f : Addr) (fd : FuncData) : Prop := FunD K "bond_lots" "bond_lots" (defArgs st) (defBody st) (defScope st) [] [("sort", .str "both")] f fd
theorem sc_bond_lots : FnScope ["family", "x", "y", "sort", "inside", "mask"] ["family", "x", "y", "sort"] (defScope (top 59)) := ⟨rfl, rfl, rfl, by decide +kernel, rfl, by decide +kernel, by decide +kernel⟩
theorem ok_bond_lots (C : FC K CF) (F : FnB K (top 59) f fd) (B : Bi mg) (c_check_two : Cal P w K mg base 4 "check_two" spTwo []) (c_inside_row : Cal P w K mg base 3 "inside_row" (spFm K CF fun size fm => bv (insF size fm)) []) (c_ordered_masks : Cal P w K mg base 1 "ordered_masks" spOrd []) (c_lot_from : Cal P w K mg base 1 "lot_from" spLotFrom []) (c_is_bonded : Cal P w K mg base 1 "is_bonded" (spBonded K) []) (c_bond_sort : Cal P w K mg base 1 "bond_sort" spSortB []) : FnOk P w K mg base CX0 5 f fd ["family", "x", "y", "sort"] (spBL CF) := by
  refine F.ok sc_bond_lots (fun vs H Q E h => ?_) (fun cdv A outer s H vs Q E hr h => ?_)
  · obtain ⟨a, size, fm, x, y, s, rfl, _⟩ := h
    rfl
  · obtain ⟨a, size, fm, x, y, srt, rfl, hf, ok, hx, hy, hne, hs, q⟩ := h
    have hz := ok.s5
    have hord := ord_ok size (by omega)
    suffices hh : ∃ t, PSs (cxOf CX0 P w K mg base ["family", "x", "y", "sort", "inside", "mask"] "bond_lots" (defScope (top 59)) f cdv A outer s H E).nox (defBody (top 59)) t ∧ t { nx := fun _ H' => Q .non H', rt := Q } (L2.start ["family", "x", "y", "sort", "inside", "mask"] [.ref a, .int x, .int y, .str srt]) H from hh.elim fun t z => ⟨t, z.1.nox, z.2⟩
    refine ⟨_, (pss_cons (ps_expr (pe_c c_check_two hr (by decide) rfl (pa_cons (pv 1) (pa_cons (pv 2) (pa_cons (pe_fld (pv 0) rfl) pa_nil))))) (pss_cons (ps_if (pt_cmpR op_notIn_seq (pv 3) (pe_tup (pa_cons pe_str (pa_cons pe_str (pa_cons pe_str pa_nil)))) rfl) (pss_one ps_never) pss_nil) (pss_cons (ps_set (i := 4) sc_bond_lots.nd rfl (by first | exact Or.inl rfl | exact Or.inr rfl) (pe_c c_inside_row hr (by decide) rfl (pa_cons (pv 0) pa_nil))) (pss_one (ps_ret (pe_lc (own := [("mask", 5)]) (g := gName 5) (by rfl) sc_bond_lots.nd (pi_list (pe_c c_ordered_masks hr (by decide) rfl (pa_cons (pe_fld (pv 0) rfl) pa_nil))) (blkOk_by (own := [("mask", 5)]) (N := ["family", "x", "y", "sort", "inside", "mask"]) (sc := defScope (top 59)) (by decide +kernel)) (fun _ _ _ _ _ => (pg_name (i := 5) sc_bond_lots.nd rfl (by first | exact Or.inl rfl | exact Or.inr rfl))) (fun _ _ _ _ _ => (pts_one (PW.pt (pw_and (pt_val (pe_c c_is_bonded hr (by decide) rfl (pa_cons (pv 4) (pa_cons (pv 5) (pa_cons (pv 1) (pa_cons (pv 2) pa_nil)))))) (pw_and1 (pt_cmpR (op_in_seqK (K := K) rfl) (pv 3) (pe_tup (pa_cons pe_str (pa_cons (pe_c c_bond_sort hr (by decide) rfl (pa_cons (pv 5) (pa_cons (pv 1) (pa_cons (pv 2) pa_nil)))) pa_nil))) rfl)))))) (fun _ _ _ _ _ => (pe_c c_lot_from hr (by decide) rfl (pa_cons (pv 5) pa_nil))))))))), ?_⟩
    refine q_drop (ev_call (ea_cons (ev_v 1) (ea_cons (ev_v 2) (ea_cons (ev_size hf C (ev_v 0)) ea_nil))) fun H2 e2 Q2 q2 E2 => ⟨x, y, size, rfl, hx, hy, hne, q2⟩) fun H1 e1 => ?_
    refine q_when (b := !inV (.str srt) [.str "rivals", .str "mates", .str "both"]) (et_test (ev_niU (ev_v 3) (eu_tup (ea_cons ev_c (ea_cons ev_c (ea_cons ev_c ea_nil))) (by show 3 ≤ 100000; decide)) rfl rfl)) (fun hb => absurd hb (by rw [hs]; decide)) (fun _ H2 e2 => ?_)
    have e12 := e1.trans e2
    refine q_asgL (el_call (ea_cons (ev_v 0) ea_nil) fun H3 e3 Q3 q3 E3 => ⟨a, size, fm, rfl, (hf.ex e12).ex e3, ok, q3⟩) fun r H3 hr3 e3 h3 => ?_
    have e13 := e12.trans e3
    refine el_cnt (ns := ordF size) (fun m => bondB fm m x y && selB srt m x y) (el_call (ea_cons (ev_size (hf.ex e13) C (ev_v 0)) ea_nil) fun H4 e4 Q4 q4 E4 => ⟨size, rfl, hz, q4⟩) (by have := hord.2.2 size (by omega); unfold ordF; omega) (fun _ => rfl) (fun m H4 e4 hm => et_and (et_B (ev_call (ea_cons (ev_v 4) (ea_cons (ev_v 5) (ea_cons (ev_v 1) (ea_cons (ev_v 2) ea_nil)))) fun H5 e5 Q5 q5 E5 => ⟨r, size, fm, m, x, y, rfl, hz, sq_of (e5 _ _ (e4 _ _ h3)), hord.2.1 m hm, hx, hy, q5⟩)) fun _ => et_test (ev_inU (ev_v 3) (eu_tup (ea_cons ev_c (ea_cons (ev_call (z := sortV m x y) (ea_cons (ev_v 5) (ea_cons (ev_v 1) (ea_cons (ev_v 2) ea_nil))) fun H5 e5 Q5 q5 E5 => ⟨m, x, y, rfl, q5⟩) ea_nil)) (by show 2 ≤ 100000; decide)) rfl (by unfold sortV; cases sameB m x y <;> rfl))) (fun m H4 e4 hm => ⟨lotF m, eu_call (xs := nv (lotF m)) (ea_cons (ev_v 5) ea_nil) fun H5 e5 Q5 q5 E5 => ⟨m, rfl, by have := hord.2.1 m hm; have := pow64 (n := size) (by omega); omega, q5⟩⟩) H3 (Ex.refl _) _ fun p rs H4 hp e4 h4 hl => q p rs H4 (fresh_back e13 hp) (e13.trans e4) h4 hl
/-- called by its values alone -/
theorem bl_values (F : FnB K (top 59) f fd) (g : mg "bond_lots" = some (.ref f)) (o : FnOk P w K mg base CX0 5 f fd ["family", "x", "y", "sort"] (spBL CF)) : Cal P w K mg base 5 "bond_lots" (spBL CF) [.str "both"] := by
  obtain ⟨ds, vd, bd⟩ := F.binds0 (ps := ["family", "x", "y", "sort"]) 3 (by simp) rfl (fun D doc pm an cdv ct us ks h1 h2 => match us, ks, h1, h2 with | [_, _, _], [_], _, _ => ⟨_, _, _, _, _, _, rfl, rfl, rfl⟩)
  exact ⟨f, fd, _, ds, o, g, F.kp, bd, vd⟩
/-- called with the sort -/
theorem bl_kw (F : FnB K (top 59) f fd) (g : mg "bond_lots" = some (.ref f)) (o : FnOk P w K mg base CX0 5 f fd ["family", "x", "y", "sort"] (spBL CF)) : CalK P w K mg base 5 "bond_lots" (spBL CF) 3 ["sort"] (fun vs zs => vs ++ zs) := by
  obtain ⟨mv, b⟩ := F.kbinds0 (ps := ["family", "x", "y", "sort"]) 3 ["sort"] [] (fun us mv ws => us ++ ws) (by simp) (by simp) (fun a b c => a.append c) (fun D doc pm an cdv ct us mv ws h1 h2 h3 => match us, mv, ws, h1, h2, h3 with | [_, _, _], [], [_], _, _, _ => rfl)
  exact ⟨f, fd, _, _, o, g, F.kp, b⟩
theorem c_bond_lots (C : FC K CF) (F : FnB K (top 59) f fd) (g : mg "bond_lots" = some (.ref f)) (B : Bi mg) (c_check_two : Cal P w K mg base 4 "check_two" spTwo []) (c_inside_row : Cal P w K mg base 3 "inside_row" (spFm K CF fun size fm => bv (insF size fm)) []) (c_ordered_masks : Cal P w K mg base 1 "ordered_masks" spOrd []) (c_lot_from : Cal P w K mg base 1 "lot_from" spLotFrom []) (c_is_bonded : Cal P w K mg base 1 "is_bonded" (spBonded K) []) (c_bond_sort : Cal P w K mg base 1 "bond_sort" spSortB []) : Cal P w K mg base 5 "bond_lots" (spBL CF) [.str "both"] := bl_values F g (ok_bond_lots C F B c_check_two c_inside_row c_ordered_masks c_lot_from c_is_bonded c_bond_sort)
theorem k_bond_lots (C : FC K CF) (F : FnB K (top 59) f fd) (g : mg "bond_lots" = some (.ref f)) (B : Bi mg) (c_check_two : Cal P w K mg base 4 "check_two" spTwo []) (c_inside_row : Cal P w K mg base 3 "inside_row" (spFm K CF fun size fm => bv (insF size fm)) []) (c_ordered_masks : Cal P w K mg base 1 "ordered_masks" spOrd []) (c_lot_from : Cal P w K mg base 1 "lot_from" spLotFrom []) (c_is_bonded : Cal P w K mg base 1 "is_bonded" (spBonded K) []) (c_bond_sort : Cal P w K mg base 1 "bond_sort" spSortB []) : CalK P w K mg base 5 "bond_lots" (spBL CF) 3 ["sort"] (fun vs zs => vs ++ zs) := bl_kw F g (ok_bond_lots C F B c_check_two c_inside_row c_ordered_masks c_lot_from c_is_bonded c_bond_sort)
theorem ev_lenC {K : PySem.W.Frag} {σ : L2.St} {H : Hp} {ta : TE} {n : Nat} (h : ∀ H1, Ex H H1 → ∀ Q : VK, (∀ p rs H2, H1 p = none → Ex H1 H2 → H2 p = some (.lst rs) → rs.length = n → Q (.ref p) H2) → ta σ H1 Q) : Ev (tCB (rLenS K) (tCons ta tNil)) σ H (.int (n : Nat)) := fun H1 e Q q => h H1 e _ fun p rs H2 hp e2 h2 hl => ⟨p, rs, rfl, Or.inl (sq_of h2), by rw [hl]; exact q H2 e2⟩
def spPairB (CF : Addr) (R : Nat → List Nat → Nat → Nat → Bool) : Sp := fun vs H Q _ => ∃ (a : Addr) (size : Nat) (fm : List Nat) (x y : Nat), vs = [.ref a, .int x, .int y] ∧ FamAt H CF a size fm ∧ FamOk size fm ∧ x < size ∧ y < size ∧ x ≠ y ∧ RetV (.bl (R size fm x y)) H Q
theorem sc_are_rivals : FnScope ["family", "x", "y"] ["family", "x", "y"] (defScope (top 60)) := ⟨rfl, rfl, rfl, by decide +kernel, rfl, by decide +kernel, by decide +kernel⟩
theorem c_are_rivals (F : FnP K "are_rivals" (top 60) f fd) (g : mg "are_rivals" = some (.ref f)) (B : Bi mg) (k_bond_lots : CalK P w K mg base 5 "bond_lots" (spBL CF) 3 ["sort"] (fun vs zs => vs ++ zs)) : Cal P w K mg base 6 "are_rivals" (spPairB CF rivB) [] := by
  refine mkCal F g sc_are_rivals (fun _ _ _ _ _ _ us hl => match us, hl with | [_, _, _], _ => rfl) (fun vs H Q E h => ?_) (fun cdv A outer s H vs Q E hr h => ?_)
  · obtain ⟨a, size, fm, x, y, rfl, _⟩ := h
    rfl
  · obtain ⟨a, size, fm, x, y, rfl, hf, ok, hx, hy, hne, q⟩ := h
    refine ⟨_, (pss_one (ps_ret (pe_cmpR on_gt (pe_callB call_len_seq (by rfl) B.len (by decide +kernel) (pa_cons (pe_ck k_bond_lots hr (by decide) rfl (pa_cons (pv 0) (pa_cons (pv 1) (pa_cons (pv 2) pa_nil))) (pk_cons pe_str pk_nil)) pa_nil)) (pe_nat 0 pe_int) (nomark _)))), ?_⟩
    refine s_ret (ev_is (ev_n (ev_lenC (n := ((ordF size).filter fun m => bondB fm m x y && selB "rivals" m x y).length) fun H1 e1 Q1 q1 => ?_) ev_c) (by rw [ord_any ok.s5 (fun m => by rw [sel_riv])]; rfl)) q
    exact ⟨.ref a, rfl, .int x, rfl, .int y, rfl, rfl, rfl, a, size, fm, x, y, "rivals", rfl, hf.ex e1, ok, hx, hy, hne, by decide, fun p rs H2 hp e2 h2 hl => q1 p rs H2 hp e2 h2 hl⟩
theorem sc_are_mates : FnScope ["family", "x", "y"] ["family", "x", "y"] (defScope (top 61)) := ⟨rfl, rfl, rfl, by decide +kernel, rfl, by decide +kernel, by decide +kernel⟩
theorem c_are_mates (F : FnP K "are_mates" (top 61) f fd) (g : mg "are_mates" = some (.ref f)) (B : Bi mg) (k_bond_lots : CalK P w K mg base 5 "bond_lots" (spBL CF) 3 ["sort"] (fun vs zs => vs ++ zs)) : Cal P w K mg base 6 "are_mates" (spPairB CF mateB) [] := by
  refine mkCal F g sc_are_mates (fun _ _ _ _ _ _ us hl => match us, hl with | [_, _, _], _ => rfl) (fun vs H Q E h => ?_) (fun cdv A outer s H vs Q E hr h => ?_)
  · obtain ⟨a, size, fm, x, y, rfl, _⟩ := h
    rfl
  · obtain ⟨a, size, fm, x, y, rfl, hf, ok, hx, hy, hne, q⟩ := h
    refine ⟨_, (pss_one (ps_ret (pe_cmpR on_gt (pe_callB call_len_seq (by rfl) B.len (by decide +kernel) (pa_cons (pe_ck k_bond_lots hr (by decide) rfl (pa_cons (pv 0) (pa_cons (pv 1) (pa_cons (pv 2) pa_nil))) (pk_cons pe_str pk_nil)) pa_nil)) (pe_nat 0 pe_int) (nomark _)))), ?_⟩
    refine s_ret (ev_is (ev_n (ev_lenC (n := ((ordF size).filter fun m => bondB fm m x y && selB "mates" m x y).length) fun H1 e1 Q1 q1 => ?_) ev_c) (by rw [ord_any ok.s5 (fun m => by rw [sel_mat])]; rfl)) q
    exact ⟨.ref a, rfl, .int x, rfl, .int y, rfl, rfl, rfl, a, size, fm, x, y, "mates", rfl, hf.ex e1, ok, hx, hy, hne, by decide, fun p rs H2 hp e2 h2 hl => q1 p rs H2 hp e2 h2 hl⟩
theorem sc_are_bonded : FnScope ["family", "x", "y"] ["family", "x", "y"] (defScope (top 62)) := ⟨rfl, rfl, rfl, by decide +kernel, rfl, by decide +kernel, by decide +kernel⟩
theorem c_are_bonded (F : FnP K "are_bonded" (top 62) f fd) (g : mg "are_bonded" = some (.ref f)) (B : Bi mg) (c_bond_lots : Cal P w K mg base 5 "bond_lots" (spBL CF) [.str "both"]) : Cal P w K mg base 6 "are_bonded" (spPairB CF bndB) [] := by
  refine mkCal F g sc_are_bonded (fun _ _ _ _ _ _ us hl => match us, hl with | [_, _, _], _ => rfl) (fun vs H Q E h => ?_) (fun cdv A outer s H vs Q E hr h => ?_)
  · obtain ⟨a, size, fm, x, y, rfl, _⟩ := h
    rfl
  · obtain ⟨a, size, fm, x, y, rfl, hf, ok, hx, hy, hne, q⟩ := h
    refine ⟨_, (pss_one (ps_ret (pe_cmpR on_gt (pe_callB call_len_seq (by rfl) B.len (by decide +kernel) (pa_cons (pe_c c_bond_lots hr (by decide) rfl (pa_cons (pv 0) (pa_cons (pv 1) (pa_cons (pv 2) pa_nil)))) pa_nil)) (pe_nat 0 pe_int) (nomark _)))), ?_⟩
    refine s_ret (ev_is (ev_n (ev_lenC (n := ((ordF size).filter fun m => bondB fm m x y && selB "both" m x y).length) fun H1 e1 Q1 q1 => ?_) ev_c) (by rw [ord_any ok.s5 (fun m => by rw [sel_both, Bool.and_true])]; rfl)) q
    exact ⟨.ref a, rfl, .int x, rfl, .int y, rfl, a, size, fm, x, y, "both", rfl, hf.ex e1, ok, hx, hy, hne, by decide, fun p rs H2 hp e2 h2 hl => q1 p rs H2 hp e2 h2 hl⟩
end
/-! ### lists of tuples of any values -/
def Tups (H : Hp) (rs : List V) (L : List (List V)) : Prop := rs.length = L.length ∧ ∀ (i : Nat) (r : V) (t : List V), rs[i]? = some r → L[i]? = some t → ∃ b, r = .ref b ∧ H b = some (.tup t)
theorem Tups.ex {H H' : Hp} {rs : List V} {L : List (List V)} (h : Tups H rs L) (e : Ex H H') : Tups H' rs L := ⟨h.1, fun i r t a b => (h.2 i r t a b).elim fun p z => ⟨p, z.1, e _ _ z.2⟩⟩
theorem Tups.push {H : Hp} {rs : List V} {L : List (List V)} {b : Addr} {t : List V} (h : Tups H rs L) (hb : H b = some (.tup t)) : Tups H (rs ++ [.ref b]) (L ++ [t]) := by
  refine ⟨by rw [List.length_append, List.length_append, h.1]; rfl, fun i r u a c => ?_⟩
  by_cases hi : i < rs.length
  · rw [List.getElem?_append_left hi] at a
    rw [List.getElem?_append_left (by rw [← h.1]; exact hi)] at c
    exact h.2 i r u a c
  · rw [List.getElem?_append_right (by omega)] at a
    rw [List.getElem?_append_right (by rw [← h.1]; omega), ← h.1] at c
    have hk : i - rs.length = 0 := by
      have := (List.getElem?_eq_some_iff.mp a).1
      simp at this
      omega
    rw [hk] at a c
    cases a
    cases c
    exact ⟨b, rfl, hb⟩
theorem nil_tups {H : Hp} : Tups H [] [] := ⟨rfl, fun i r t a b => by simp at a⟩
theorem Tups.upd {H : Hp} {rs : List V} {L : List (List V)} {c : Addr} {xs ys : List V} (h : Tups H rs L) (hc : H c = some (.lst xs)) : Tups (L2.upd H c (.lst ys)) rs L := ⟨h.1, fun i r t a b => by
  obtain ⟨p, e1, e2⟩ := h.2 i r t a b
  exact ⟨p, e1, by rw [upd_ne (fun e => by rw [e, hc] at e2; cases e2)]; exact e2⟩⟩
def rowB (size : Nat) (fm : List Nat) (x y : Nat) : Option (List V) := if rivB size fm x y || mateB size fm x y then some [.int (x : Nat), .int (y : Nat), .bl (rivB size fm x y), .bl (mateB size fm x y)] else none
def rowL (size : Nat) (fm : List Nat) (x k : Nat) : List (List V) := (List.range k).filterMap fun j => rowB size fm x (x + 1 + j)
def bondsL (size : Nat) (fm : List Nat) (n : Nat) : List (List V) := (List.range n).flatMap fun x => rowL size fm x (size - (x + 1))
theorem rowL_succ {size : Nat} {fm : List Nat} {x k : Nat} : rowL size fm x (k + 1) = rowL size fm x k ++ (match rowB size fm x (x + 1 + k) with | some t => [t] | none => []) := by
  unfold rowL
  rw [List.range_succ, List.filterMap_append, List.filterMap_cons]
  cases rowB size fm x (x + 1 + k) <;> rfl
theorem bondsL_succ {size : Nat} {fm : List Nat} {n : Nat} : bondsL size fm (n + 1) = bondsL size fm n ++ rowL size fm n (size - (n + 1)) := by
  unfold bondsL
  rw [List.range_succ, List.flatMap_append]
  simp
theorem rowL_len {size : Nat} {fm : List Nat} {x k : Nat} : (rowL size fm x k).length ≤ k := by
  have h := List.length_filterMap_le (fun j => rowB size fm x (x + 1 + j)) (List.range k)
  rw [List.length_range] at h
  exact h
theorem bondsL_len {size : Nat} {fm : List Nat} (h5 : size ≤ 5) : ∀ {n : Nat}, n ≤ size → (bondsL size fm n).length ≤ n * 5
  | 0, _ => by simp [bondsL]
  | n + 1, h => by
    have := bondsL_len h5 (fm := fm) (n := n) (by omega)
    have := rowL_len (size := size) (fm := fm) (x := n) (k := size - (n + 1))
    rw [bondsL_succ, List.length_append]
    omega
section
variable {P : Program} {w : World} {K : PySem.W.Frag} {mg : Str → Option Value} {base : Heap} {f : Addr} {fd : FuncData} {CF CA : Addr}
theorem s_par {σ : L2.St} {H : Hp} {D : Ends} {ta tb : TE} {i j : Nat} {x y : V} (h1 : Ev ta σ H x) (h2 : Ev tb σ H y) (k : ∀ H1, Ex H H1 → D.nx ((σ.set i (some x)).set j (some y)) H1) : L2.tPar i j (tCons ta (tCons tb tNil)) D σ H := (ea_cons h1 (ea_cons h2 ea_nil)) H (Ex.refl H) _ fun H1 e => ⟨x, y, rfl, k H1 e⟩
theorem q_par {σ : L2.St} {H : Hp} {D : Ends} {ta tb : TE} {tz : TS} {i j : Nat} {x y : V} (h1 : Ev ta σ H x) (h2 : Ev tb σ H y) (k : ∀ H1, Ex H H1 → tz D ((σ.set i (some x)).set j (some y)) H1) : tSeq (L2.tPar i j (tCons ta (tCons tb tNil))) tz D σ H := s_par (D := { D with nx := tz D }) h1 h2 k
def spBonds (CF : Addr) : Sp := fun vs H Q _ => ∃ (a : Addr) (size : Nat) (fm : List Nat), vs = [.ref a] ∧ FamAt H CF a size fm ∧ FamOk size fm ∧ ∀ p rs H', H p = none → Ex H H' → H' p = some (.lst rs) → Tups H' rs (bondsL size fm size) → Q (.ref p) H'
theorem sc_bonds : FnScope ["family", "found", "x", "y", "rivals", "mates"] ["family"] (defScope (top 63)) := ⟨rfl, rfl, rfl, by decide +kernel, rfl, by decide +kernel, by decide +kernel⟩
theorem c_bonds (C : FC K CF) (F : FnP K "bonds" (top 63) f fd) (g : mg "bonds" = some (.ref f)) (B : Bi mg) (c_are_rivals : Cal P w K mg base 6 "are_rivals" (spPairB CF rivB) []) (c_are_mates : Cal P w K mg base 6 "are_mates" (spPairB CF mateB) []) : Cal P w K mg base 7 "bonds" (spBonds CF) [] := by
  refine mkCal F g sc_bonds (fun _ _ _ _ _ _ us hl => match us, hl with | [_], _ => rfl) (fun vs H Q E h => ?_) (fun cdv A outer s H vs Q E hr h => ?_)
  · obtain ⟨a, size, fm, rfl, _⟩ := h
    rfl
  · obtain ⟨a, size, fm, rfl, hf, ok, q⟩ := h
    have hz := ok.s5
    refine ⟨_, (pss_cons (ps_set (i := 1) sc_bonds.nd rfl (by first | exact Or.inl rfl | exact Or.inr rfl) (pe_lst pa_nil)) (pss_cons (ps_for PassesOwn.never rfl (pi_range1 rfl B.range (pa_cons (pe_fld (pv 0) rfl) pa_nil)) (pg_name (i := 2) sc_bonds.nd rfl (by first | exact Or.inl rfl | exact Or.inr rfl)) (pss_one (ps_for PassesOwn.never rfl (pi_range2 rfl B.range (pa_cons (pe_op on_add (pv 2) (pe_nat 1 pe_int)) (pa_cons (pe_fld (pv 0) rfl) pa_nil))) (pg_name (i := 3) sc_bonds.nd rfl (by first | exact Or.inl rfl | exact Or.inr rfl)) (pss_cons (ps_par (i := 4) (j := 5) rfl sc_bonds.nd rfl rfl (by decide) rfl rfl (pa_cons (pe_c c_are_rivals hr (by decide) rfl (pa_cons (pv 0) (pa_cons (pv 2) (pa_cons (pv 3) pa_nil)))) (pa_cons (pe_c c_are_mates hr (by decide) rfl (pa_cons (pv 0) (pa_cons (pv 2) (pa_cons (pv 3) pa_nil)))) pa_nil)) rfl) (pss_one (ps_if (PW.pt (pw_or (pt_val (pv 4)) (pw_or1 (pt_val (pv 5))))) (pss_one (ps_expr (pe_bm PySem.F.plainAttrs_list PySem.F.slot_list_append PySem.F.type_list_append mt_append (pv 1) (pa_cons (pe_tup (pa_cons (pv 2) (pa_cons (pv 3) (pa_cons (pv 4) (pa_cons (pv 5) pa_nil))))) pa_nil)))) pss_nil)))))) (pss_one (ps_ret (pv 1))))), ?_⟩
    refine q_asgL (el_lst ea_nil (by decide)) fun c H1 hc e1 h1 => ?_
    refine q_forR1 (n := (size : Int)) (ea_cons (ev_size (hf.ex e1) C (ev_v 0)) ea_nil) (by omega) (fun i σ H' => Ex H H' ∧ ∃ rs v2 v3 v4 v5, H' c = some (.lst rs) ∧ Tups H' rs (bondsL size fm i) ∧ σ = [some (.ref a), some (.ref c), v2, v3, v4, v5]) (fun H2 e2 => ⟨e1.trans e2, [], _, _, _, _, e2 _ _ h1, nil_tups, rfl⟩) ?_ ?_
    · rintro x σ H2 hx ⟨e2, rs, v2, v3, v4, v5, h2, t2, rfl⟩
      have hxs : x < size := by omega
      refine s_forR2 (lo := ((x + 1 : Nat) : Int)) (n := (size : Int)) (ea_cons (ev_n (ev_v 2) ev_c) (ea_cons (ev_size (hf.ex e2) C (ev_v 0)) ea_nil)) (by omega) (fun i σ H' => Ex H H' ∧ ∃ rs v3 v4 v5, H' c = some (.lst rs) ∧ Tups H' rs (bondsL size fm x ++ rowL size fm x i) ∧ σ = [some (.ref a), some (.ref c), some (.int (x : Int)), v3, v4, v5]) (fun H3 e3 => ⟨e2.trans e3, rs, _, _, _, e3 _ _ h2, by have := t2.ex e3; simpa [rowL] using this, rfl⟩) ?_ ?_
      · rintro k σ H3 hk ⟨e3, rs3, v3, v4, v5, h3, t3, rfl⟩
        have ey : ((x + 1 : Nat) : Int) + (k : Int) = ((x + 1 + k : Nat) : Int) := by omega
        rw [ey]
        have hys : x + 1 + k < size := by omega
        have f3 := hf.ex e3
        refine q_par (ev_call (z := .bl (rivB size fm x (x + 1 + k))) (ea_cons (ev_v 0) (ea_cons (ev_v 2) (ea_cons (ev_v 3) ea_nil))) fun H4 e4 Q4 q4 E4 => ⟨a, size, fm, x, x + 1 + k, rfl, f3.ex e4, ok, hxs, hys, by omega, q4⟩) (ev_call (z := .bl (mateB size fm x (x + 1 + k))) (ea_cons (ev_v 0) (ea_cons (ev_v 2) (ea_cons (ev_v 3) ea_nil))) fun H4 e4 Q4 q4 E4 => ⟨a, size, fm, x, x + 1 + k, rfl, f3.ex e4, ok, hxs, hys, by omega, q4⟩) fun H4 e4 => ?_
        have h34 := e4 _ _ h3
        have t4 := t3.ex e4
        have lenb : rs3.length ≤ 30 := by
          have l1 := bondsL_len hz (fm := fm) (n := x) (by omega)
          have l2 := rowL_len (size := size) (fm := fm) (x := x) (k := k)
          rw [t3.1, List.length_append]
          omega
        refine s_when (b := rivB size fm x (x + 1 + k) || mateB size fm x (x + 1 + k)) (et_or (et_B (ev_v 4)) fun _ => et_B (ev_v 5)) (fun hb5 H5 e5 => ?_) (fun hb5 H5 e5 => ⟨e3.trans (e4.trans e5), rs3, _, _, _, e5 _ _ h34, ?_, rfl⟩)
        · refine s_appU (e5 _ _ h34) (ev_v 1) (eu_tup (ea_cons (ev_v 2) (ea_cons (ev_v 3) (ea_cons (ev_v 4) (ea_cons (ev_v 5) ea_nil)))) (by show 4 ≤ 100000; decide)) (by omega) fun p H6 hp e6 h6 => ?_
          have e36 := (e4.trans e5).trans e6
          refine ⟨Ex.mut (e3.trans e36) hc, _, _, _, _, upd_same, ?_, rfl⟩
          have t6 := (t4.ex (e5.trans e6)).push h6
          rw [rowL_succ]
          have hr : rowB size fm x (x + 1 + k) = some [.int (x : Nat), .int (x + 1 + k : Nat), .bl (rivB size fm x (x + 1 + k)), .bl (mateB size fm x (x + 1 + k))] := by unfold rowB; rw [if_pos hb5]
          rw [hr, ← List.append_assoc]
          exact t6.upd (e6 _ _ (e5 _ _ h34))
        · rw [rowL_succ]
          have hr : rowB size fm x (x + 1 + k) = none := by unfold rowB; rw [if_neg (by rw [hb5]; decide)]
          rw [hr, List.append_nil]
          exact t4.ex e5
      · rintro σ H3 ⟨e3, rs3, v3, v4, v5, h3, t3, rfl⟩
        have e : ((size : Int) - ((x + 1 : Nat) : Int)).toNat = size - (x + 1) := by omega
        rw [e, ← bondsL_succ] at t3
        exact ⟨e3, rs3, _, _, _, _, h3, t3, rfl⟩
    · rintro σ H2 ⟨e2, rs, v2, v3, v4, v5, h2, t2, rfl⟩
      have e : ((size : Int)).toNat = size := by omega
      rw [e] at t2
      exact s_ret (ev_v 1) fun H3 e3 => q c rs H3 hc (e2.trans e3) (e3 _ _ h2) (t2.ex e3)
end
end W7
end
section
namespace W7
open PySem PySem.Spec PyProof.Rows L2 L3 Evl
open C8 (Cal pe_c Mak pe_mk Met pe_mt pe_mt0)
section
variable {σ : L2.St} {H : Hp} {ta te tl : TE}
theorem ev_isN {v : V} (h : Ev ta σ H v) : Ev (tIsN ta) σ H (.bl (decide (v = .non))) := fun H1 e Q q => h H1 e _ fun H2 e2 => q H2 e2
/-- [.. for i in r if ..], r a range object of 0 .. n - 1 -/
theorem el_rngV {a : Addr} {j : Nat} {vs : List Nat} {n : Nat} {t : TT} (F : Nat → Bool) (G : Nat → V) (h : Ev tl σ H (.ref a)) (hx : H a = some (.rng 0 (n : Nat))) (hn : n ≤ 40000) (hw : ∀ x, wipe ((wipe σ vs).set j (some x)) vs = wipe σ vs)
    (ht : ∀ (i : Nat) H1, Ex H H1 → i < n → EvT t ((wipe σ vs).set j (some (.int (i : Int)))) H1 (F i)) (he : ∀ (i : Nat) H1, Ex H H1 → i < n → F i = true → Ev te ((wipe σ vs).set j (some (.int (i : Int)))) H1 (G i)) :
    EvL (tLc (iRngV tl) (gName j) t te vs) σ H (((List.range n).filter F).map G) := fun H1 e Q q => h H1 e _ fun H2 e2 => by
  have e12 := e.trans e2
  obtain ⟨j', ej, b1, b2, k⟩ := el_rng (ta := tCons (tC (.int (n : Nat))) tNil) (t := t) (te := te) (σ := σ) (H := H) (j := j) (vs := vs) F G (ea_cons ev_c ea_nil) hn hw ht he H2 e12 Q (fun p H3 hp e3 h3 => q p H3 (fresh_back e2 hp) (e2.trans e3) h3)
  cases ej
  exact ⟨a, 0, (n : Nat), rfl, e12 _ _ hx, by omega, by omega, b1, b2, by simpa using k⟩
theorem q_rng {D : Ends} {tz : TS} {i n : Nat} (h : Ev ta σ H (.int (n : Nat))) (k : ∀ p H1, H p = none → Ex H H1 → H1 p = some (.rng 0 (n : Nat)) → tz D (σ.set i (some (.ref p))) H1) : tSeq (tAsg (tCB rRng1 (tCons ta tNil)) (gName i)) tz D σ H :=
  h H (Ex.refl H) _ fun H1 e => ⟨(n : Nat), rfl, fun p hp => k p _ (fresh_back e hp) (e.trans (Ex.new hp)) upd_same⟩
end
def upB (fm : List Nat) (t x : Nat) : Bool := decide (rkF fm t < rkF fm (t ^^^ (1 <<< x)))
def firstV (size : Nat) (fm : List Nat) (t : Nat) : V := match (List.range size).find? (upB fm t) with | some x => .int (x : Nat) | none => .non
def topB (size : Nat) (fm : List Nat) (t : Nat) : Bool := (List.range size).all fun x => !upB fm t x
def topsF (size : Nat) (fm : List Nat) : List Nat := (List.range (1 <<< size)).filter (topB size fm)
theorem first_top {size : Nat} {fm : List Nat} {t : Nat} : decide (firstV size fm t = .non) = topB size fm t := by
  unfold firstV topB
  cases h : (List.range size).find? (upB fm t) with
  | none =>
    rw [List.find?_eq_none] at h
    simp only [decide_true]
    symm
    rw [List.all_eq_true]
    intro x hx
    have := h x hx
    simpa using this
  | some x =>
    have h1 := List.find?_some h
    have h2 := List.mem_of_find?_eq_some h
    have : (List.range size).all (fun x => !upB fm t x) = false := by
      rw [List.all_eq_false]
      exact ⟨x, h2, by rw [h1]; decide⟩
    rw [this]
    simp
section
variable {P : Program} {w : World} {K : PySem.W.Frag} {mg : Str → Option Value} {base : Heap} {f : Addr} {fd : FuncData} {CF CA : Addr}
def spRaising (K : PySem.W.Frag) : Sp := fun vs H Q _ => ∃ (p : Addr) (size : Nat) (fm : List Nat) (t : Nat), vs = [.ref p, .int size, .int t] ∧ size ≤ 5 ∧ SqL K H p (nv (depF size fm)) ∧ t < 1 <<< size ∧ RetV (firstV size fm t) H Q
theorem sc_first_raising : FnScope ["depths", "size", "mask", "thing"] ["depths", "size", "mask"] (defScope (top 54)) := ⟨rfl, rfl, rfl, by decide +kernel, rfl, by decide +kernel, by decide +kernel⟩
theorem c_first_raising (F : FnP K "first_raising" (top 54) f fd) (g : mg "first_raising" = some (.ref f)) (B : Bi mg) : Cal P w K mg base 1 "first_raising" (spRaising K) [] := by
  refine mkCal F g sc_first_raising (fun _ _ _ _ _ _ us hl => match us, hl with | [_, _, _], _ => rfl) (fun vs H Q E h => ?_) (fun cdv A outer s H vs Q E hr h => ?_)
  · obtain ⟨p, size, fm, t, rfl, _⟩ := h
    rfl
  · obtain ⟨p, size, fm, t, rfl, hz, hp, ht, q⟩ := h
    refine ⟨_, (pss_cons (ps_for PassesOwn.never rfl (pi_range1 rfl B.range (pa_cons (pv 1) pa_nil)) (pg_name (i := 3) sc_first_raising.nd rfl (by first | exact Or.inl rfl | exact Or.inr rfl)) (pss_one (ps_if (pt_cmpR on_gt (pe_ix (on_ix (K := K)) (pv 0) (pe_op on_xor (pv 2) (pe_op on_shl (pe_nat 1 pe_int) (pv 3))) (fun _ _ => rfl)) (pe_ix (on_ix (K := K)) (pv 0) (pv 2) (fun _ _ => rfl)) (nomark _)) (pss_one (ps_ret (pv 3))) pss_nil))) (pss_one (ps_ret pe_non))), ?_⟩
    refine q_forR1 (n := (size : Int)) (ea_cons (ev_v 1) ea_nil) (by omega) (fun i σ H' => Ex H H' ∧ (∀ x, x < i → upB fm t x = false) ∧ ∃ v3, σ = [some (.ref p), some (.int size), some (.int t), v3]) (fun H2 e2 => ⟨e2, fun x hx => absurd hx (by omega), _, rfl⟩) ?_ ?_
    · rintro i σ H2 hi ⟨e2, hno, v3, rfl⟩
      have his : i < size := by omega
      refine s_when (b := upB fm t i) (et_test (ev_n (ev_ix (ex_l e2 hp) (ev_v 0) (ev_n (ev_v 2) (ev_nc ev_c (ev_v 3) ⟨by decide, by omega⟩)) (nv_rng (tog_sh ht his))) (ev_ix (ex_l e2 hp) (ev_v 0) (ev_v 2) (nv_rng ht)))) (fun hb H3 e3 => ?_) (fun hb H3 e3 => ⟨e2.trans e3, fun x hx => ?_, _, rfl⟩)
      · refine s_ret (v := .int (i : Nat)) (ev_v 3) fun H4 e4 => ?_
        have hfd : firstV size fm t = .int (i : Nat) := by
          unfold firstV
          have : (List.range size).find? (upB fm t) = some i := by
            rw [List.find?_range_eq_some]
            exact ⟨hb, List.mem_range.mpr his, fun j hj => by rw [hno j hj]; rfl⟩
          rw [this]
        rw [hfd] at q
        exact q H4 ((e2.trans e3).trans e4)
      · rcases Nat.lt_succ_iff_lt_or_eq.mp hx with h | h
        · exact hno x h
        · rw [h]; exact hb
    · rintro σ H2 ⟨e2, hno, v3, rfl⟩
      have e : ((size : Int)).toNat = size := by omega
      rw [e] at hno
      have hfd : firstV size fm t = .non := by
        unfold firstV
        have : (List.range size).find? (upB fm t) = none := by
          rw [List.find?_eq_none]
          intro x hx
          rw [hno x (List.mem_range.mp hx)]; decide
        rw [this]
      rw [hfd] at q
      exact s_ret ev_c fun H3 e3 => q H3 (e2.trans e3)
def spPeaks (CF : Addr) : Sp := fun vs H Q _ => ∃ (a : Addr) (size : Nat) (fm : List Nat), vs = [.ref a] ∧ FamAt H CF a size fm ∧ FamOk size fm ∧ RowsOk size fm ∧ ∀ L : List (List Nat), L.Perm ((topsF size fm).map lotF) → L.Pairwise lexLe → RetLots L H Q
theorem sc_peaks : FnScope ["family", "depths", "masks", "mask"] ["family"] (defScope (top 55)) := ⟨rfl, rfl, rfl, by decide +kernel, rfl, by decide +kernel, by decide +kernel⟩
theorem c_peaks (C : FC K CF) (F : FnP K "peaks" (top 55) f fd) (g : mg "peaks" = some (.ref f)) (B : Bi mg) (c_needs_gated : Cal P w K mg base 6 "needs_gated" (spGate CF) []) (c_depth_row : Cal P w K mg base 4 "depth_row" (spFm K CF fun size fm => nv (depF size fm)) []) (c_first_raising : Cal P w K mg base 1 "first_raising" (spRaising K) []) (c_lots_from : Cal P w K mg base 2 "lots_from" (spLotsFrom K) []) : Cal P w K mg base 7 "peaks" (spPeaks CF) [] := by
  refine mkCal F g sc_peaks (fun _ _ _ _ _ _ us hl => match us, hl with | [_], _ => rfl) (fun vs H Q E h => ?_) (fun cdv A outer s H vs Q E hr h => ?_)
  · obtain ⟨a, size, fm, rfl, _⟩ := h
    rfl
  · obtain ⟨a, size, fm, rfl, hf, ok, hro, q⟩ := h
    have hz := ok.s5
    have h64 := pow64 (n := size) (by omega)
    refine ⟨_, (pss_cons (ps_expr (pe_c c_needs_gated hr (by decide) rfl (pa_cons (pv 0) pa_nil))) (pss_cons (ps_set (i := 1) sc_peaks.nd rfl (by first | exact Or.inl rfl | exact Or.inr rfl) (pe_c c_depth_row hr (by decide) rfl (pa_cons (pv 0) pa_nil))) (pss_cons (ps_set (i := 2) sc_peaks.nd rfl (by first | exact Or.inl rfl | exact Or.inr rfl) (pe_callTy cr_range1 (by rfl) B.range (by decide +kernel) (pa_cons (pe_op on_shl (pe_nat 1 pe_int) (pe_fld (pv 0) rfl)) pa_nil))) (pss_one (ps_ret (pe_c c_lots_from hr (by decide) rfl (pa_cons (pe_lc (own := [("mask", 3)]) (g := gName 3) (by rfl) sc_peaks.nd (pi_rngV (pv 2)) (blkOk_by (own := [("mask", 3)]) (N := ["family", "depths", "masks", "mask"]) (sc := defScope (top 55)) (by decide +kernel)) (fun _ _ _ _ _ => (pg_name (i := 3) sc_peaks.nd rfl (by first | exact Or.inl rfl | exact Or.inr rfl))) (fun _ _ _ _ _ => (pts_one (pt_cmp (pc_isN (pe_c c_first_raising hr (by decide) rfl (pa_cons (pv 1) (pa_cons (pe_fldK (K := K) rfl (pv 0) (by rfl)) (pa_cons (pv 3) pa_nil)))))))) (fun _ _ _ _ _ => (pv 3))) pa_nil))))))), ?_⟩
    refine q_drop (ev_call (z := .non) (ea_cons (ev_v 0) ea_nil) fun H2 e2 Q2 q2 E2 => ⟨a, size, fm, rfl, hf.ex e2, ok, hro, q2⟩) fun H1 e1 => ?_
    refine q_asgL (el_call (ea_cons (ev_v 0) ea_nil) fun H2 e2 Q2 q2 E2 => ⟨a, size, fm, rfl, (hf.ex e1).ex e2, ok, q2⟩) fun d H2 hd e2 h2 => ?_
    have e12 := e1.trans e2
    refine q_rng (n := 1 <<< size) (ev_nc ev_c (ev_size (hf.ex e12) C (ev_v 0)) ⟨by decide, by omega⟩) fun r H3 hr e3 h3 => ?_
    have e13 := e12.trans e3
    have h23 := e3 _ _ h2
    have el := el_rngV (tl := tVar 2) (te := tVar 3) (t := tB (tIsN (tCall (spRaising K) [] C8.E0 (tCons (tVar 1) (tCons (tFld K (tVar 0) "size") (tCons (tVar 3) tNil)))))) (j := 3) (vs := [3]) (σ := [some (.ref a), some (.ref d), some (.ref r), none]) (H := H3) (topB size fm) (fun i => .int (i : Nat)) (ev_v 2) h3 (by omega) (fun _ => rfl) (fun i H4 e4 hi => et_is (et_B (ev_isN (ev_call (z := firstV size fm i) (ea_cons (ev_v 1) (ea_cons (ev_size ((hf.ex e13).ex e4) C (ev_v 0)) (ea_cons (ev_v 3) ea_nil))) fun H5 e5 Q5 q5 E5 => ⟨d, size, fm, i, rfl, hz, sq_of (e5 _ _ (e4 _ _ h23)), hi, q5⟩))) first_top) (fun i H4 e4 hi _ => ev_v 3)
    refine ret_callL0 el fun l H4 hl e4 h4 => ⟨l, topsF size fm, rfl, sq_of h4, ?_, fun m hm => ?_, fun L l1 l2 p rs H5 hp e5 h5 L5 => q L l1 l2 p rs H5 (fresh_back (e13.trans e4) hp) ((e13.trans e4).trans e5) h5 L5⟩
    · unfold topsF
      refine Nat.le_trans (List.length_filter_le _ _) ?_
      rw [List.length_range]; omega
    · have := List.mem_range.mp (List.mem_filter.mp hm).1
      omega
end
end W7
end
section
namespace W7
open PySem PySem.Spec PyProof.Rows L2 L3 Evl
open C8 (Cal pe_c Mak pe_mk Met pe_mt pe_mt0)
theorem dLots_some {c : V} {k : List Key} : ∀ {ks : List (List Key)}, k ∈ ks → (valV (dLots c ks) k).isSome = true := by
  intro ks
  have go : ∀ (l : List (List Key)) (m : List (List Key × V)), ((valV m k).isSome = true ∨ k ∈ l) → (valV (l.foldl (fun m k => putK m k c) m) k).isSome = true := by
    intro l
    induction l with
    | nil => intro m h; rcases h with h | h; exact h; cases h
    | cons a l ih =>
      intro m h
      refine ih _ ?_
      rw [valV_put]
      by_cases e : k = a
      · left; rw [if_pos e]; rfl
      · rw [if_neg e]
        rcases h with h | h
        · exact .inl h
        · rcases List.mem_cons.mp h with h | h
          · exact absurd h e
          · exact .inr h
  exact fun h => go ks [] (.inr h)
section
variable {K : PySem.W.Frag} {σ : L2.St} {H : Hp} {ta tb te tl : TE} {v : V} {tt : TT}
theorem el_natsU {ns : List Nat} {j : Nat} {vs : List Nat} {t : TT} (F : Nat → Bool) (G : Nat → V) (h : EvU tl σ H (nv ns)) (hz : ns.length ≤ 40000) (hw : ∀ x, wipe ((wipe σ vs).set j (some x)) vs = wipe σ vs)
    (ht : ∀ (n : Nat) H1, Ex H H1 → n ∈ ns → EvT t ((wipe σ vs).set j (some (.int (n : Nat)))) H1 (F n)) (he : ∀ (n : Nat) H1, Ex H H1 → n ∈ ns → F n = true → Ev te ((wipe σ vs).set j (some (.int (n : Nat)))) H1 (G n)) :
    EvL (tLc (iTup K tl) (gName j) t te vs) σ H ((ns.filter F).map G) := fun H1 e Q q => h H1 e _ fun p H2 hp e2 h2 =>
  el_natsT (K := K) (tl := tC (.ref p)) (t := t) (te := te) (σ := σ) (H := H2) (j := j) (vs := vs) F G ev_c (st_of h2) hz hw (fun n H3 e3 hn => ht n H3 ((e.trans e2).trans e3) hn) (fun n H3 e3 hn hf => he n H3 ((e.trans e2).trans e3) hn hf) H2 (Ex.refl _) Q (fun r H3 hr e3 h3 => q r H3 (fresh_back e2 hr) (e2.trans e3) h3)
end
section
variable {P : Program} {w : World} {K : PySem.W.Frag} {mg : Str → Option Value} {base : Heap} {f : Addr} {fd : FuncData} {CF CA : Addr}
def spHas (CF : Addr) (v : V) : Sp := fun vs H Q _ => ∃ (a p : Addr) (size : Nat) (fm : List Nat) (t : Nat), vs = [.ref a, .ref p] ∧ FamAt H CF a size fm ∧ FamIn H CF a fm ∧ FamOk size fm ∧ t ∈ fm ∧ LotA H p (lotF t) ∧ RetV v H Q
theorem sc_Family_has : FnScope ["self", "lot"] ["self", "lot"] (defScope (inClass (top 52) 15)) := ⟨rfl, rfl, rfl, by decide +kernel, rfl, by decide +kernel, by decide +kernel⟩
theorem m_has (C : FC K CF) (me : Meth K CF "has" f) (F : FunD K "has" "Family.has" (defArgs (inClass (top 52) 15)) (defBody (inClass (top 52) 15)) (defScope (inClass (top 52) 15)) [] [] f fd) (B : Bi mg) (c_lot_of : Cal P w K mg base 3 "lot_of" spLotOf []) : Met P w K mg base 4 CF "has" (spHas CF (.bl true)) [] := by
  refine mkMet C.cls me F sc_Family_has (fun _ _ _ _ _ _ us hl => match us, hl with | [_, _], _ => rfl) (fun vs H Q E h => ?_) (fun cdv A outer s H vs Q E hr h => ?_)
  · obtain ⟨a, p, size, fm, t, rfl, _⟩ := h
    rfl
  · obtain ⟨a, p, size, fm, t, rfl, hf, hin, ok, htm, hp, q⟩ := h
    have hz := ok.s5
    have lo := lot_ok (ok.lt t htm) (by omega)
    refine ⟨_, (pss_one (ps_ret (pe_cmp (pc_din (hu_of hr) (pe_c c_lot_of hr (by decide) rfl (pa_cons (pv 1) (pa_cons (pe_fld (pv 0) rfl) pa_nil))) (pe_fld (pv 0) rfl)) rfl))), ?_⟩
    refine eu_call (xs := nv (lotF t)) (ea_cons (ev_v 1) (ea_cons (ev_size hf C (ev_v 0)) ea_nil)) (fun H2 e2 Q2 q2 E2 => ⟨p, lotF t, size, rfl, hp.ex e2, lo.1, lo.2, q2⟩) H (Ex.refl _) _ fun r H1 hr1 e1 h1 => ?_
    obtain ⟨dx, fs, d, g1, g2, g3, g4⟩ := hin
    refine ev_fld (ev_v 0) (e1 _ _ g1) C.cls C.a3 g2 H1 (Ex.refl _) _ fun H2 e2 => ?_
    have hsome := dLots_some (c := .bl true) (k := keyL t) (ks := fm.map keyL) (List.mem_map.mpr ⟨t, htm, rfl⟩)
    refine ⟨d, valV (dLots (.bl true) (fm.map keyL)) (keyL t), rfl, DGet.t (e2 _ _ (e1 _ _ g4)) (by rw [key_nv]; exact e2 _ _ h1), ?_⟩
    rw [hsome]
    exact q H2 (e1.trans e2)
theorem sc_check_inside : FnScope ["family", "lot"] ["family", "lot"] (defScope (top 31)) := ⟨rfl, rfl, rfl, by decide +kernel, rfl, by decide +kernel, by decide +kernel⟩
theorem c_check_inside (F : FnP K "check_inside" (top 31) f fd) (g : mg "check_inside" = some (.ref f)) (B : Bi mg) (m_has : Met P w K mg base 4 CF "has" (spHas CF (.bl true)) []) : Cal P w K mg base 5 "check_inside" (spHas CF .non) [] := by
  refine mkCal F g sc_check_inside (fun _ _ _ _ _ _ us hl => match us, hl with | [_, _], _ => rfl) (fun vs H Q E h => ?_) (fun cdv A outer s H vs Q E hr h => ?_)
  · obtain ⟨a, p, size, fm, t, rfl, _⟩ := h
    rfl
  · obtain ⟨a, p, size, fm, t, rfl, hf, hin, ok, htm, hp, q⟩ := h
    refine ⟨_, (pss_one (ps_if (pt_not (pt_val (pe_mt m_has hr (by decide) (pv 0) (pa_cons (pv 1) pa_nil)))) (pss_one ps_never) pss_nil)), ?_⟩
    obtain ⟨dx, fs, d, g1, g2, g3, g4⟩ := id hin
    refine s_when (b := !true) (et_not (et_B fun H1 e1 Q1 q1 => ?_)) (fun hb => absurd hb (by decide)) (fun _ H1 e1 => q H1 e1)
    exact ⟨.ref a, rfl, a, dx, fs, rfl, e1 _ _ g1, g3, .ref p, rfl, a, p, size, fm, t, rfl, hf.ex e1, hin.ex e1, ok, htm, hp.ex e1, fun H2 e2 => q1 H2 e2⟩
def partF (fm : List Nat) (one two x : Nat) : List Nat := (lotF (one ^^^ two)).filter fun y => decide ((one ^^^ ((1 <<< x) ||| (1 <<< y))) ∈ fm)
def spPart (CF : Addr) : Sp := fun vs H Q _ => ∃ (a p1 p2 : Addr) (size : Nat) (fm : List Nat) (one two x : Nat), vs = [.ref a, .ref p1, .ref p2, .int x] ∧ FamAt H CF a size fm ∧ FamIn H CF a fm ∧ FamOk size fm ∧ one ∈ fm ∧ two ∈ fm ∧ LotA H p1 (lotF one) ∧ LotA H p2 (lotF two) ∧ x < size ∧ (one ^^^ two).testBit x = true ∧ RetL (nv (partF fm one two x)) H Q
theorem or_lt_sh {size a b : Nat} (ha : a < 1 <<< size) (hb : b < 1 <<< size) : a ||| b < 1 <<< size := by
  rw [Nat.one_shiftLeft] at *
  exact Nat.or_lt_two_pow ha hb
theorem sc_partners : FnScope ["family", "inner", "other", "thing", "one", "two", "apart", "inside", "y"] ["family", "inner", "other", "thing"] (defScope (top 34)) := ⟨rfl, rfl, rfl, by decide +kernel, rfl, by decide +kernel, by decide +kernel⟩
theorem c_partners (C : FC K CF) (F : FnP K "partners" (top 34) f fd) (g : mg "partners" = some (.ref f)) (B : Bi mg) (c_lot_of : Cal P w K mg base 3 "lot_of" spLotOf []) (c_mask_of : Cal P w K mg base 1 "mask_of" spMaskOf []) (c_check_thing : Cal P w K mg base 3 "check_thing" spChkThing []) (c_check_inside : Cal P w K mg base 5 "check_inside" (spHas CF .non) []) (c_inside_row : Cal P w K mg base 3 "inside_row" (spFm K CF fun size fm => bv (insF size fm)) []) (c_lot_from : Cal P w K mg base 1 "lot_from" spLotFrom []) : Cal P w K mg base 6 "partners" (spPart CF) [] := by
  refine mkCal F g sc_partners (fun _ _ _ _ _ _ us hl => match us, hl with | [_, _, _, _], _ => rfl) (fun vs H Q E h => ?_) (fun cdv A outer s H vs Q E hr h => ?_)
  · obtain ⟨a, p1, p2, size, fm, one, two, x, rfl, _⟩ := h
    rfl
  · obtain ⟨a, p1, p2, size, fm, one, two, x, rfl, hf, hin, ok, h1m, h2m, hp1, hp2, hx, hxb, q⟩ := h
    have hz := ok.s5
    have h64 := pow64 (n := size) (by omega)
    have h1l := ok.lt one h1m
    have h2l := ok.lt two h2m
    have lo1 := lot_ok h1l (by omega)
    have lo2 := lot_ok h2l (by omega)
    have hal := xor_lt_sh h1l h2l
    refine ⟨_, (pss_cons (ps_set (i := 4) sc_partners.nd rfl (by first | exact Or.inl rfl | exact Or.inr rfl) (pe_c c_lot_of hr (by decide) rfl (pa_cons (pv 1) (pa_cons (pe_fld (pv 0) rfl) pa_nil)))) (pss_cons (ps_set (i := 5) sc_partners.nd rfl (by first | exact Or.inl rfl | exact Or.inr rfl) (pe_c c_lot_of hr (by decide) rfl (pa_cons (pv 2) (pa_cons (pe_fld (pv 0) rfl) pa_nil)))) (pss_cons (ps_set (i := 6) sc_partners.nd rfl (by first | exact Or.inl rfl | exact Or.inr rfl) (pe_op on_xor (pe_c c_mask_of hr (by decide) rfl (pa_cons (pv 4) pa_nil)) (pe_c c_mask_of hr (by decide) rfl (pa_cons (pv 5) pa_nil)))) (pss_cons (ps_if (pt_not (pt_truthK (K := K) rfl (pe_op on_and (pe_op on_shr (pv 6) (pe_c c_check_thing hr (by decide) rfl (pa_cons (pv 3) (pa_cons (pe_fld (pv 0) rfl) pa_nil)))) (pe_nat 1 pe_int)) (fun _ => rfl))) (pss_one ps_never) pss_nil) (pss_cons (ps_expr (pe_c c_check_inside hr (by decide) rfl (pa_cons (pv 0) (pa_cons (pv 4) pa_nil)))) (pss_cons (ps_expr (pe_c c_check_inside hr (by decide) rfl (pa_cons (pv 0) (pa_cons (pv 5) pa_nil)))) (pss_cons (ps_set (i := 7) sc_partners.nd rfl (by first | exact Or.inl rfl | exact Or.inr rfl) (pe_c c_inside_row hr (by decide) rfl (pa_cons (pv 0) pa_nil))) (pss_one (ps_ret (pe_lc (own := [("y", 8)]) (g := gName 8) (by rfl) sc_partners.nd (pi_tup (pe_c c_lot_from hr (by decide) rfl (pa_cons (pv 6) pa_nil))) (blkOk_by (own := [("y", 8)]) (N := ["family", "inner", "other", "thing", "one", "two", "apart", "inside", "y"]) (sc := defScope (top 34)) (by decide +kernel)) (fun _ _ _ _ _ => (pg_name (i := 8) sc_partners.nd rfl (by first | exact Or.inl rfl | exact Or.inr rfl))) (fun _ _ _ _ _ => (pts_one (pt_val (pe_ix (on_ix (K := K)) (pv 7) (pe_op on_xor (pe_c c_mask_of hr (by decide) rfl (pa_cons (pv 4) pa_nil)) (pe_op on_or (pe_op on_shl (pe_nat 1 pe_int) (pv 3)) (pe_op on_shl (pe_nat 1 pe_int) (pv 8)))) (fun _ _ => rfl))))) (fun _ _ _ _ _ => (pv 8)))))))))))), ?_⟩
    refine q_asgU (eu_call (xs := nv (lotF one)) (ea_cons (ev_v 1) (ea_cons (ev_size hf C (ev_v 0)) ea_nil)) fun H2 e2 Q2 q2 E2 => ⟨p1, lotF one, size, rfl, hp1.ex e2, lo1.1, lo1.2, q2⟩) fun r1 H1 hr1 e1 h1 => ?_
    refine q_asgU (eu_call (xs := nv (lotF two)) (ea_cons (ev_v 2) (ea_cons (ev_size (hf.ex e1) C (ev_v 0)) ea_nil)) fun H2 e2 Q2 q2 E2 => ⟨p2, lotF two, size, rfl, (hp2.ex e1).ex e2, lo2.1, lo2.2, q2⟩) fun r2 H2 hr2 e2 h2 => ?_
    have e12 := e1.trans e2
    have hr1' := e2 _ _ h1
    refine q_asg (v := .int ((one ^^^ two : Nat) : Nat)) (ev_n (ev_call (z := .int (one : Nat)) (ea_cons (ev_v 4) ea_nil) fun H3 e3 Q3 q3 E3 => ⟨r1, lotF one, rfl, .inr (e3 _ _ hr1'), fun y hy => by have := lotF_lt hy; omega, by rw [orF_lot one (by omega)]; exact q3⟩) (ev_call (z := .int (two : Nat)) (ea_cons (ev_v 5) ea_nil) fun H3 e3 Q3 q3 E3 => ⟨r2, lotF two, rfl, .inr (e3 _ _ h2), fun y hy => by have := lotF_lt hy; omega, by rw [orF_lot two (by omega)]; exact q3⟩)) fun H3 e3 => ?_
    have e13 := e12.trans e3
    refine q_when (b := !decide (((one ^^^ two) >>> x) &&& 1 ≠ 0)) (et_not (et_truth (ev_n (ev_n (ev_v 6) (ev_call (z := .int (x : Nat)) (ea_cons (ev_v 3) (ea_cons (ev_size (hf.ex e13) C (ev_v 0)) ea_nil)) fun H4 e4 Q4 q4 E4 => ⟨x, size, rfl, hx, q4⟩)) ev_c))) (fun hb => absurd hb ?_) (fun _ H4 e4 => ?_)
    · have : ((one ^^^ two) >>> x) &&& 1 ≠ 0 := by
        intro h0
        have : (one ^^^ two).testBit x = false := by
          rw [Nat.testBit]
          simp only [bne_eq_false_iff_eq]
          rw [Nat.and_comm]; exact h0
        rw [hxb] at this; cases this
      rw [decide_eq_true this]; decide
    have e14 := e13.trans e4
    have r1a := e4 _ _ (e3 _ _ hr1')
    have r2a := e4 _ _ (e3 _ _ h2)
    refine q_drop (ev_call (z := .non) (ea_cons (ev_v 0) (ea_cons (ev_v 4) ea_nil)) fun H5 e5 Q5 q5 E5 => ⟨a, r1, size, fm, one, rfl, (hf.ex e14).ex e5, (hin.ex e14).ex e5, ok, h1m, .inr (e5 _ _ r1a), q5⟩) fun H5 e5 => ?_
    have e15 := e14.trans e5
    refine q_drop (ev_call (z := .non) (ea_cons (ev_v 0) (ea_cons (ev_v 5) ea_nil)) fun H6 e6 Q6 q6 E6 => ⟨a, r2, size, fm, two, rfl, (hf.ex e15).ex e6, (hin.ex e15).ex e6, ok, h2m, .inr (e6 _ _ (e5 _ _ r2a)), q6⟩) fun H6 e6 => ?_
    have e16 := e15.trans e6
    refine q_asgL (el_call (ea_cons (ev_v 0) ea_nil) fun H7 e7 Q7 q7 E7 => ⟨a, size, fm, rfl, (hf.ex e16).ex e7, ok, q7⟩) fun d H7 hd e7 h7 => ?_
    have e17 := e16.trans e7
    have r17 := e7 _ _ (e6 _ _ (e5 _ _ r1a))
    refine s_retL (xs := nv (partF fm one two x)) ?_ fun r H8 hr8 e8 h8 => q r H8 (fresh_back e17 hr8) (e17.trans e8) h8
    have hlt : ∀ y ∈ lotF (one ^^^ two), y < size := fun y hy => (lot_ok hal (by omega)).1.2.1 y hy
    have el := el_natsU (K := K) (tl := tCall spLotFrom [] C8.E0 (tCons (tVar 6) tNil)) (te := tVar 8) (t := tB (tOp (rIxN K) (tVar 7) (tOp (rN0 fun a b => .int ((a ^^^ b : Nat) : Int)) (tCall spMaskOf [] C8.E0 (tCons (tVar 4) tNil)) (tOp (rN0 fun a b => .int ((a ||| b : Nat) : Int)) (tOp (rN (fun a b => a < 64 ∧ b < 64) fun a b => .int ((a <<< b : Nat) : Int)) (tC (.int ((1 : Nat) : Int))) (tVar 3)) (tOp (rN (fun a b => a < 64 ∧ b < 64) fun a b => .int ((a <<< b : Nat) : Int)) (tC (.int ((1 : Nat) : Int))) (tVar 8)))))) (j := 8) (vs := [8]) (σ := [some (.ref a), some (.ref p1), some (.ref p2), some (.int x), some (.ref r1), some (.ref r2), some (.int ((one ^^^ two : Nat) : Nat)), some (.ref d), none]) (H := H7) (ns := lotF (one ^^^ two)) (fun y => decide ((one ^^^ ((1 <<< x) ||| (1 <<< y))) ∈ fm)) (fun y => .int (y : Nat)) (eu_call (ea_cons (ev_v 6) ea_nil) fun H8 e8 Q8 q8 E8 => ⟨_, rfl, by omega, q8⟩) (by have := lot_len (one ^^^ two) (by omega); have := bits_size size (by omega) _ hal; omega) (fun _ => rfl) (fun y H8 e8 hy => et_B (ev_ix (sq_of (e8 _ _ h7)) (ev_v 7) (ev_n (ev_call (z := .int (one : Nat)) (ea_cons (ev_v 4) ea_nil) fun H9 e9 Q9 q9 E9 => ⟨r1, lotF one, rfl, .inr (e9 _ _ (e8 _ _ r17)), fun y hy => by have := lotF_lt hy; omega, by rw [orF_lot one (by omega)]; exact q9⟩) (ev_n (ev_nc ev_c (ev_v 3) ⟨by decide, by omega⟩) (ev_nc ev_c (ev_v 8) ⟨by decide, by have := hlt y hy; omega⟩))) (insF_get (xor_lt_sh h1l (or_lt_sh (one_lt_sh hx) (one_lt_sh (hlt y hy))))))) (fun y H8 e8 hy _ => ev_v 8)
    exact el
end
end W7
end
section
namespace W7
open PySem PySem.Spec PyProof.Rows L2 L3 Evl
open C8 (Cal pe_c Mak pe_mk Met pe_mt pe_mt0)
section
variable {X : Cx} {K : PySem.W.Frag} {w : World}
theorem cr_allK (hK : X.K = K) (hc : X.calm = true) : CallR X (.builtin "all") (rAll K) := hK ▸ cr_all hc
theorem cr_setOfLK (hK : X.K = K) (hw : X.w = w) (hc : X.calm = true) : CallR X (.type "set") (rSetOfL K w) := hK ▸ hw ▸ cr_setOfL hc
theorem cr_sortedSetK (hK : X.K = K) (hw : X.w = w) (hc : X.calm = true) : CallR X (.builtin "sorted") (rSortedSet w) := hw ▸ cr_sortedSet hc
end
section
variable {K : PySem.W.Frag} {σ : L2.St} {H : Hp} {te : TE}
theorem ev_allL {bs : List Bool} (h : EvL te σ H (bv bs)) : Ev (tCB (rAll K) (tCons te tNil)) σ H (.bl (bs.all id)) := fun H1 e Q q => h H1 e _ fun p H2 hp e2 h2 => ⟨p, bs, rfl, sq_of h2, q H2 e2⟩
end
/-! ### the independent lots -/
def indB (bs : List Nat) (m : Nat) : Bool := bs.any fun b => decide (m &&& b = m)
def clr (k x : Nat) : Nat := k - (k &&& (1 <<< x))
theorem clr_int (k s : Nat) : Builtin.bitAnd (k : Int) (Builtin.bitNot (s : Int)) = ((k - (k &&& s) : Nat) : Int) := by
  unfold Builtin.bitAnd Builtin.bitNot
  have h1 : decide ((0 : Int) ≤ (k : Int)) = true := by simp
  have h2 : decide ((0 : Int) ≤ -(s : Int) - 1) = false := by simp; omega
  rw [h1, h2]
  have e : (-(-(s : Int) - 1) - 1).toNat = s := by omega
  simp only [Int.toNat_natCast, e]
  have := Nat.and_le_left (n := k) (m := s)
  omega
theorem clr_ok : ∀ k : Nat, k < 32 → ∀ x : Nat, x < 5 → clr k x = if k.testBit x then k ^^^ (1 <<< x) else k := by decide +kernel
theorem clr_le (k x : Nat) : clr k x ≤ k := Nat.sub_le _ _
theorem sub_moreB : ∀ m : Nat, m < 32 → ∀ b : Nat, b < 32 → m &&& b = m → m = b ∨ ((List.range 5).any fun x => !m.testBit x && (b.testBit x && (decide ((m ^^^ (1 <<< x)) &&& b = m ^^^ (1 <<< x)) && (decide (m < m ^^^ (1 <<< x)) && decide (clr (m ^^^ (1 <<< x)) x = m))))) = true := by decide +kernel
theorem sub_more (m : Nat) (hm : m < 32) (b : Nat) (hb : b < 32) (h : m &&& b = m) : m = b ∨ ∃ x, x < 5 ∧ m.testBit x = false ∧ b.testBit x = true ∧ (m ^^^ (1 <<< x)) &&& b = m ^^^ (1 <<< x) ∧ m < m ^^^ (1 <<< x) ∧ clr (m ^^^ (1 <<< x)) x = m := by
  rcases sub_moreB m hm b hb h with e | e
  · exact .inl e
  · rw [List.any_eq_true] at e
    obtain ⟨x, hx, e⟩ := e
    simp only [Bool.and_eq_true, decide_eq_true_eq, Bool.not_eq_true'] at e
    exact .inr ⟨x, List.mem_range.mp hx, e⟩
theorem sub_clr : ∀ k : Nat, k < 32 → ∀ b : Nat, b < 32 → k &&& b = k → ∀ x : Nat, x < 5 → clr k x &&& b = clr k x := by decide +kernel
/-- the row behind the first i masks from above -/
def stK (size : Nat) (bs : List Nat) : Nat → Nat → Bool
  | 0, m => decide (m ∈ bs)
  | i + 1, m => stK size bs i m || (stK size bs i ((1 <<< size) - 1 - i) && (List.range size).any fun x => decide (m = clr ((1 <<< size) - 1 - i) x))
theorem st_mono {size : Nat} {bs : List Nat} {m : Nat} {i j : Nat} (hij : i ≤ j) (h : stK size bs i m = true) : stK size bs j m = true := by
  induction j with
  | zero => have : i = 0 := by omega
            rw [this] at h; exact h
  | succ j ih =>
    by_cases e : i = j + 1
    · rw [e] at h; exact h
    · unfold stK; rw [ih (by omega)]; rfl
theorem st_sound {size : Nat} {bs : List Nat} (h5 : size ≤ 5) (hb : ∀ b ∈ bs, b < 1 <<< size) : ∀ i m, stK size bs i m = true → indB bs m = true
  | 0, m, h => by
    unfold stK at h
    unfold indB
    rw [List.any_eq_true]
    exact ⟨m, of_decide_eq_true h, by simp⟩
  | i + 1, m, h => by
    unfold stK at h
    obtain h | h := Bool.or_eq_true_iff.mp h
    · exact st_sound h5 hb i m h
    · obtain ⟨h1, h2⟩ := Bool.and_eq_true_iff.mp h
      have h3 := st_sound h5 hb i _ h1
      unfold indB at h3 ⊢
      rw [List.any_eq_true] at h2 h3 ⊢
      obtain ⟨x, hx, ex⟩ := h2
      obtain ⟨b, hbm, hk⟩ := h3
      have e := of_decide_eq_true ex
      have hbl := sh32 h5 (hb b hbm)
      have hkl : (1 <<< size) - 1 - i < 32 := by have := pow64 (n := size) (by omega); have : 1 <<< size ≤ 32 := by
                                                   match size, h5 with
                                                   | 0, _ | 1, _ | 2, _ | 3, _ | 4, _ | 5, _ => decide
                                                   | n + 6, h => omega
                                                 have : 0 < 1 <<< size := by rw [Nat.one_shiftLeft]; exact Nat.two_pow_pos _
                                                 omega
      refine ⟨b, hbm, decide_eq_true ?_⟩
      rw [e]
      exact sub_clr _ hkl _ hbl (of_decide_eq_true hk) x (by have := List.mem_range.mp hx; omega)
theorem st_full {size : Nat} {bs : List Nat} (h5 : size ≤ 5) (hb : ∀ b ∈ bs, b < 1 <<< size) : ∀ d m, m < 1 <<< size → (1 <<< size) - m ≤ d → indB bs m = true → stK size bs ((1 <<< size) - 1 - m) m = true
  | 0, m, hm, hd, _ => by omega
  | d + 1, m, hm, hd, h => by
    unfold indB at h
    rw [List.any_eq_true] at h
    obtain ⟨b, hbm, hk⟩ := h
    have hbl := hb b hbm
    rcases sub_more m (sh32 h5 hm) b (sh32 h5 hbl) (of_decide_eq_true hk) with e | ⟨x, hx5, h1, h2, h3, h4, h6⟩
    · refine st_mono (Nat.zero_le _) ?_
      unfold stK
      rw [e]; exact decide_eq_true hbm
    · have hxs : x < size := bit_sz hbl h2
      have hk' : m ^^^ (1 <<< x) < 1 <<< size := tog_sh hm hxs
      have ih := st_full h5 hb d (m ^^^ (1 <<< x)) hk' (by omega) (by unfold indB; rw [List.any_eq_true]; exact ⟨b, hbm, decide_eq_true h3⟩)
      refine st_mono (i := (1 <<< size) - 1 - (m ^^^ (1 <<< x)) + 1) (by omega) ?_
      unfold stK
      have e : (1 <<< size) - 1 - ((1 <<< size) - 1 - (m ^^^ (1 <<< x))) = m ^^^ (1 <<< x) := by omega
      rw [e, ih]
      have : (List.range size).any (fun y => decide (m = clr (m ^^^ (1 <<< x)) y)) = true := by
        rw [List.any_eq_true]
        exact ⟨x, List.mem_range.mpr hxs, decide_eq_true h6.symm⟩
      rw [this]
      simp
theorem st_ind {size : Nat} {bs : List Nat} (h5 : size ≤ 5) (hb : ∀ b ∈ bs, b < 1 <<< size) {m : Nat} (hm : m < 1 <<< size) : stK size bs (1 <<< size) m = indB bs m := by
  rw [Bool.eq_iff_iff]
  exact ⟨st_sound h5 hb _ m, fun h => st_mono (by omega) (st_full h5 hb _ m hm (Nat.le_refl _) h)⟩
end W7
end
section
namespace W7
open PySem PySem.Spec PyProof.Rows L2 L3 Evl
open C8 (Cal pe_c Mak pe_mk Met pe_mt pe_mt0)
section
variable {K : PySem.W.Frag} {σ : L2.St} {H : Hp} {ta tb te tl : TE} {v : V} {tt : TT}
/-- [f(r) for r in g(..) if t], the list of lots not known by name, each element a new tuple -/
theorem qe_lots {PL : List (List Nat) → Prop} {j : Nat} {vs : List Nat} (F : List Nat → Bool) (T : List Nat → List Nat) (h : ∀ Q' : VK, (∀ r rs H1 L, PL L → H r = none → Ex H H1 → H1 r = some (.lst rs) → Lots H1 rs L → Q' (.ref r) H1) → tl σ H Q') (hz : ∀ L, PL L → L.length ≤ 40000) (hw : ∀ x, wipe ((wipe σ vs).set j (some x)) vs = wipe σ vs)
    (ht : ∀ L (x : V) ns H', PL L → Ex H H' → TupV H' x ns → ns ∈ L → EvT tt ((wipe σ vs).set j (some x)) H' (F ns))
    (he : ∀ L (x : V) ns H', PL L → Ex H H' → TupV H' x ns → ns ∈ L → F ns = true → EvU te ((wipe σ vs).set j (some x)) H' (nv (T ns))) (Q : VK)
    (k : ∀ L p rs H', PL L → H p = none → Ex H H' → H' p = some (.lst rs) → Lots H' rs ((L.filter F).map T) → Q (.ref p) H') :
    tLc (iList K tl) (gName j) tt te vs σ H Q := h _ fun r rs H1 L pl hr e h1 hL => ⟨r, rfl, ⟨rs, sq_of h1⟩, fun Dl hD =>
  lc_list (xs := rs) (fun i H' => H1 Dl = none ∧ Ex H1 H' ∧ ∃ ss, H' Dl = some (.lst ss) ∧ Lots H' ss (((L.take i).filter F).map T)) ⟨hD, Ex.new hD, [], upd_same, nil_lots⟩ (fun i H' _ p => sq_of (p.2.1 _ _ h1)) (fun i x H' hi ⟨p1, p2, ss, p3, p4⟩ => ⟨hw x, by
    have hl : i < L.length := by rw [← hL.1]; exact (List.getElem?_eq_some_iff.mp hi).1
    have hn : L[i]? = some L[i] := List.getElem?_eq_some_iff.mpr ⟨hl, rfl⟩
    have htk : L.take (i + 1) = L.take i ++ [L[i]] := by rw [List.take_add_one, hn]; rfl
    have lenb : ss.length ≤ i := by
      rw [p4.1, List.length_map]
      exact Nat.le_trans (List.length_filter_le _ _) (by rw [List.length_take]; omega)
    have hzz := hz L pl
    have hmem := List.getElem_mem hl
    have htx := (hL.2 i x _ hi hn).ex p2
    generalize L[i] = ns at htk hmem htx hn
    refine ht L x ns H' pl (e.trans p2) htx hmem H' (Ex.refl _) _ fun H3 e3 => ?_
    cases hf : F ns with
    | true =>
      show te _ H3 _
      refine he L x ns H' pl (e.trans p2) htx hmem hf H3 e3 _ fun b H4 hb e4 h4 => ⟨ss, e4 _ _ (e3 _ _ p3), sz_lt (by omega), p1, Ex.mut (p2.trans (e3.trans e4)) p1, ss ++ [.ref b], upd_same, ?_⟩
      rw [htk, List.filter_append, List.map_append, List.filter_cons, if_pos hf]
      have hbD : b ≠ Dl := fun e5 => by rw [e5, e3 _ _ p3] at hb; cases hb
      refine Lots.push ⟨p4.1, fun k r ms a1 a2 => ?_⟩ ⟨b, rfl, by rw [upd_ne hbD]; exact h4⟩
      obtain ⟨t, rfl, ht2⟩ := (p4.2 k r ms a1 a2).ex (e3.trans e4)
      refine ⟨t, rfl, ?_⟩
      rw [upd_ne (fun e5 => by rw [e5, e4 _ _ (e3 _ _ p3)] at ht2; cases ht2)]
      exact ht2
    | false =>
      show _ ∧ _ ∧ _
      refine ⟨p1, p2.trans e3, ss, e3 _ _ p3, ?_⟩
      rw [htk, List.filter_append, List.map_append, List.filter_cons, if_neg (by rw [hf]; decide)]
      simpa using p4.ex e3⟩) (fun H' ⟨p1, p2, ss, p3, p4⟩ => k L Dl ss H' pl (fresh_back e p1) (e.trans p2) p3 (by rw [hL.1, List.take_length] at p4; exact p4))⟩
theorem ret_cb {r : List V → Hp → VK → Prop} {D : Ends} (h : tl σ H fun x H1 => r [x] H1 D.rt) : tRet (tCB r (tCons tl tNil)) D σ H := h
/-- sorted(..) of a list of lots at p -/
theorem sort_k {p : Addr} {rs : List V} {L : List (List Nat)} {Q : VK} (hp : H p = some (.lst rs)) (hL : Lots H rs L) (q : ∀ M : List (List Nat), M.Perm L → M.Pairwise lexLe → RetLots M H Q) : rSortLots K [.ref p] H Q := by
  obtain ⟨k, k1, k2⟩ := sortLots_at (K := K) hL
  refine ⟨p, rs, k, rfl, sq_of hp, k1, fun ys l y1 y2 hl => ?_⟩
  obtain ⟨M, m1, m2, m3⟩ := k2 ys l y1 y2 hl
  exact q M m1 m2 l ys _ hl (Ex.new hl) upd_same m3
theorem any_perm {α : Type} {xs ys : List α} (h : xs.Perm ys) (f : α → Bool) : xs.any f = ys.any f := by
  refine Bool.eq_iff_iff.mpr (Iff.trans List.any_eq_true (Iff.trans ?_ List.any_eq_true.symm))
  constructor
  · rintro ⟨x, a, b⟩; exact ⟨x, h.mem_iff.mp a, b⟩
  · rintro ⟨x, a, b⟩; exact ⟨x, h.mem_iff.mpr a, b⟩
theorem mem_lotF {b x : Nat} (hx : x < 12) : decide (x ∈ lotF b) = b.testBit x := by
  unfold lotF
  cases h : b.testBit x with
  | true => exact decide_eq_true (List.mem_filter.mpr ⟨List.mem_range.mpr hx, h⟩)
  | false => exact decide_eq_false fun h2 => by rw [(List.mem_filter.mp h2).2] at h; cases h
theorem ev_inLot {x : Nat} {b : V} {ns : List Nat} (ha : Ev ta σ H (.int (x : Nat))) (hb : Ev tb σ H b) (h : TupV H b ns) : Ev (tOp (rIn K false) ta tb) σ H (.bl (decide (x ∈ ns))) := by
  obtain ⟨t, rfl, ht⟩ := h
  have := ev_op ha hb (rv_isT (K := K) (st_of ht) (rfl : flatV (.int (x : Nat)) = true) (nv_flat ns))
  rw [inV_nat] at this
  exact this
end
def heldB (fm : List Nat) (t x : Nat) : Bool := (basesF fm t).any fun b => b.testBit x
def loopF (size : Nat) (fm : List Nat) (t : Nat) : List Nat := (List.range size).filter fun x => !heldB fm t x
theorem bases_down {size : Nat} {fm : List Nat} (ok : FamOk size fm) {t x : Nat} (ht : t < 1 <<< size) (hx : x ∈ downF size fm t) : basesF fm (t ^^^ (1 <<< x)) = ((basesF fm t).filter fun b => b.testBit x).map (· ^^^ (1 <<< x)) := by
  have hx2 := hx
  unfold downF at hx2
  rw [List.mem_filter, List.mem_range, decide_eq_true_eq] at hx2
  obtain ⟨hxs, hr⟩ := hx2
  unfold basesF
  rw [List.filter_map, List.map_map]
  have e1 : ∀ m : Nat, m ^^^ (t ^^^ (1 <<< x)) = (m ^^^ t) ^^^ (1 <<< x) := fun m => by rw [Nat.xor_assoc]
  have e2 : nearF fm (t ^^^ (1 <<< x)) = (nearF fm t).filter ((fun b => b.testBit x) ∘ fun m => m ^^^ t) := by
    unfold nearF
    rw [List.filter_filter]
    refine List.filter_congr fun m hm => ?_
    show decide (bits (m ^^^ (t ^^^ (1 <<< x))) = rkF fm (t ^^^ (1 <<< x))) = ((m ^^^ t).testBit x && decide (bits (m ^^^ t) = rkF fm t))
    rw [Bool.eq_iff_iff, Bool.and_eq_true, decide_eq_true_eq, decide_eq_true_eq, e1]
    have hm2 : ((m ^^^ t) ^^^ t) ∈ fm := by rw [back]; exact hm
    constructor
    · intro h
      have hb : (m ^^^ t) ^^^ (1 <<< x) ∈ basesF fm (t ^^^ (1 <<< x)) := List.mem_map.mpr ⟨m, List.mem_filter.mpr ⟨hm, decide_eq_true (by rw [e1]; exact h)⟩, e1 m⟩
      obtain ⟨h1, h2⟩ := base_back ok ht hxs hr hb
      rw [back] at h1 h2
      exact ⟨h2, base_rk h1⟩
    · rintro ⟨h1, h2⟩
      have hb : m ^^^ t ∈ basesF fm t := List.mem_map.mpr ⟨m, List.mem_filter.mpr ⟨hm, decide_eq_true h2⟩, rfl⟩
      exact base_rk (base_step ok ht hxs hb h1).1
  rw [e2]
  exact List.map_congr_left fun m _ => e1 m
theorem lot_less {b x : Nat} (h : b.testBit x = true) : (lotF b).filter (fun y => !decide (y = x)) = lotF (b ^^^ (1 <<< x)) := by
  unfold lotF
  rw [List.filter_filter]
  refine List.filter_congr fun y _ => ?_
  rw [tb_tog]
  by_cases e : y = x
  · subst e; simp [h]
  · have : ¬ x = y := fun z => e z.symm
    simp [e, this]
section
variable {P : Program} {w : World} {K : PySem.W.Frag} {mg : Str → Option Value} {base : Heap} {f : Addr} {fd : FuncData} {CF CA : Addr}
/-- lot_of of a row in any order -/
def spLotOfP : Sp := fun vs H Q _ => ∃ (p : Addr) (ns ms : List Nat) (size : Nat), vs = [.ref p, .int size] ∧ LotA H p ns ∧ LotOk size ns ∧ ms.Perm ns ∧ ms.Pairwise (· ≤ ·) ∧ RetU (nv ms) H Q
theorem c_lot_ofP (F : FnP K "lot_of" (top 16) f fd) (g : mg "lot_of" = some (.ref f)) (B : Bi mg) (c_is_list : Cal P w K mg base 1 "is_list" spIsList []) (c_wrong_entry : Cal P w K mg base 2 "wrong_entry" spWrong []) : Cal P w K mg base 3 "lot_of" spLotOfP [] := by
  refine mkCal F g sc_lot_of (fun _ _ _ _ _ _ us hl => match us, hl with | [_, _], _ => rfl) (fun vs H Q E h => ?_) (fun cdv A outer s H vs Q E hr h => ?_)
  · obtain ⟨i, ns, ms, size, rfl, _⟩ := h
    rfl
  · obtain ⟨p, ns, ms0, size, rfl, hp, ok, hpm, hso, q⟩ := h
    refine ⟨_, (pss_cons (ps_if (pt_not (pt_val (pe_c c_is_list hr (by decide) rfl (pa_cons (pv 0) pa_nil)))) (pss_one ps_never) pss_nil) (pss_cons (ps_set (i := 2) sc_lot_of.nd rfl (by first | exact Or.inl rfl | exact Or.inr rfl) (pe_c c_wrong_entry hr (by decide) rfl (pa_cons (pv 0) (pa_cons (pv 1) pa_nil)))) (pss_cons (ps_if (pt_cmp (pc_notN (pv 2))) (pss_one ps_never) pss_nil) (pss_one (ps_ret (pe_callTy call_tuple_of (by rfl) B.tuple (by decide +kernel) (pa_cons (pe_callB cr_sortedA (by rfl) B.sorted (by decide +kernel) (pa_cons (pv 0) pa_nil)) pa_nil))))))), ?_⟩
    refine ⟨.ref p, rfl, p, nv ns, rfl, hp, fun H1 e1 => ⟨true, rfl, ?_⟩⟩
    refine q_asg (v := .non) (ev_call (ea_cons (ev_v 0) (ea_cons (ev_v 1) ea_nil)) fun H2 e2 Q2 q2 E2 => ⟨p, ns, size, rfl, (hp.ex e1).ex e2, ok, q2⟩) fun H2 e2 => ?_
    refine ⟨.non, rfl, false, rfl, ?_⟩
    refine ⟨.ref p, rfl, p, ns.map fun n => ((n : Nat) : Int), rfl, ?_, fun is l h3 h4 hl => ?_⟩
    · have := LotA.sq (K := K) ((hp.ex e1).ex e2)
      unfold nv at this
      rw [List.map_map]
      exact this
    · obtain ⟨ms, rfl⟩ : ∃ ms : List Nat, is = ms.map fun n => ((n : Nat) : Int) := by
        refine ⟨is.map Int.toNat, ?_⟩
        rw [List.map_map]
        have : ∀ i ∈ is, ((fun n => ((n : Nat) : Int)) ∘ Int.toNat) i = id i := fun i hi => by
          obtain ⟨n, _, rfl⟩ := List.mem_map.mp (h3.mem_iff.mp hi)
          rfl
        rw [List.map_congr_left this, List.map_id]
      have h5 : ms.Perm ns := by
        have := h3.map Int.toNat
        simpa [List.map_map, Function.comp_def] using this
      have h6 : ms.Pairwise (· ≤ ·) := by
        rw [List.pairwise_map] at h4
        exact h4.imp fun h => by omega
      have := sorted_eq (h5.trans hpm.symm) h6 hso
      subst this
      refine ⟨l, nv ms, rfl, .inl ⟨sq_of ?_, fun l2 hl2 => ?_⟩⟩
      · rw [upd_same]; unfold nv; rw [List.map_map]; rfl
      · exact q l2 _ (fresh_back (e1.trans e2) (fresh_back (Ex.new hl) hl2)) ((e1.trans e2).trans ((Ex.new hl).trans (Ex.new hl2))) upd_same
def spBases (CF CA : Addr) : Sp := fun vs H Q _ => ∃ (b : Addr) (size : Nat) (fm : List Nat) (t : Nat), vs = [.ref b] ∧ AtAt H CF CA b size fm t ∧ ∀ L : List (List Nat), L.Perm ((basesF fm t).map lotF) → L.Pairwise lexLe → RetLots L H Q
theorem sc_At_bases : FnScope ["self"] ["self"] (defScope (inClass (top 48) 4)) := ⟨rfl, rfl, rfl, by decide +kernel, rfl, by decide +kernel, by decide +kernel⟩
theorem m_bases (C : FC K CF) (CC : AC K CA) (me : Meth K CA "bases" f) (F : FunD K "bases" "At.bases" (defArgs (inClass (top 48) 4)) (defBody (inClass (top 48) 4)) (defScope (inClass (top 48) 4)) [] [] f fd) (B : Bi mg) : Met P w K mg base 1 CA "bases" (spBases CF CA) [] := by
  refine mkMet CC.cls me F sc_At_bases (fun _ _ _ _ _ _ us hl => match us, hl with | [_], _ => rfl) (fun vs H Q E h => ?_) (fun cdv A outer s H vs Q E hr h => ?_)
  · obtain ⟨b, size, fm, t, rfl, _⟩ := h
    rfl
  · obtain ⟨b, size, fm, t, rfl, hA, q⟩ := h
    obtain ⟨a, dx, fs, bp, rs, bm, g1, g2, g3, g4, g5, g6, g7, g8, g9⟩ := hA
    refine ⟨_, (pss_one (ps_ret (pe_callTy call_list_of (by rfl) B.list (by decide +kernel) (pa_cons (pe_fld (pv 0) rfl) pa_nil)))), ?_⟩
    exact ⟨.ref b, rfl, b, CA, dx, fs, .ref bp, rfl, g1, CC.cls, CC.a3, g3, bp, rs, rfl, .inr (st_of g6), fun l hl => q _ (g8.1.map _) g8.2 l rs _ hl (Ex.new hl) upd_same (g7.ex (Ex.new hl))⟩
def spLoops (CF CA : Addr) : Sp := fun vs H Q _ => ∃ (b : Addr) (size : Nat) (fm : List Nat) (t : Nat), vs = [.ref b] ∧ AtAt H CF CA b size fm t ∧ FamOk size fm ∧ t < 1 <<< size ∧ RetU (nv (loopF size fm t)) H Q
theorem sc_At_loops : FnScope ["self", "x", "base"] ["self"] (defScope (inClass (top 48) 6)) := ⟨rfl, rfl, rfl, by decide +kernel, rfl, by decide +kernel, by decide +kernel⟩
theorem m_loops (C : FC K CF) (CC : AC K CA) (me : Meth K CA "loops" f) (F : FunD K "loops" "At.loops" (defArgs (inClass (top 48) 6)) (defBody (inClass (top 48) 6)) (defScope (inClass (top 48) 6)) [] [] f fd) (B : Bi mg) : Met P w K mg base 1 CA "loops" (spLoops CF CA) [] := by
  refine mkMet CC.cls me F sc_At_loops (fun _ _ _ _ _ _ us hl => match us, hl with | [_], _ => rfl) (fun vs H Q E h => ?_) (fun cdv A outer s H vs Q E hr h => ?_)
  · obtain ⟨b, size, fm, t, rfl, _⟩ := h
    rfl
  · obtain ⟨b, size, fm, t, rfl, hA, ok, ht, q⟩ := h
    have hz := ok.s5
    obtain ⟨a, dx, fs, bp, rs, bm, g1, g2, g3, g4, g5, g6, g7, g8, g9⟩ := hA
    have hbl : bm.length ≤ 64 := by
      rw [g8.1.length_eq]; unfold basesF; rw [List.length_map]
      exact Nat.le_trans near_len ok.len
    refine ⟨_, (pss_one (ps_ret (pe_callTy call_tuple_of (by rfl) B.tuple (by decide +kernel) (pa_cons (pe_lc (own := [("x", 1)]) (g := gName 1) (by rfl) sc_At_loops.nd (pi_range1 rfl B.range (pa_cons (pe_fld (pe_fld (pv 0) rfl) rfl) pa_nil)) (blkOk_by (own := [("x", 1)]) (N := ["self", "x", "base"]) (sc := defScope (inClass (top 48) 6)) (by decide +kernel)) (fun _ _ _ _ _ => (pg_name (i := 1) sc_At_loops.nd rfl (by first | exact Or.inl rfl | exact Or.inr rfl))) (fun _ _ _ _ _ => (pts_one (pt_not (pt_truthK (K := K) rfl (pe_callB (cr_anyK (K := K) rfl rfl) (by rfl) B.any (by decide +kernel) (pa_cons (pe_lc (own := [("base", 2)]) (g := gName 2) (by rfl) sc_At_loops.nd (pi_tupK (K := K) rfl (pe_fldK (K := K) rfl (pv 0) (by rfl))) (by exact blkOk_by (by kernel_rfl)) (fun _ _ _ _ _ => (pg_name (i := 2) sc_At_loops.nd rfl (by first | exact Or.inl rfl | exact Or.inr rfl))) (fun _ _ _ _ _ => pts_nil) (fun _ _ _ _ _ => (pe_cmpR (op_in_seqK (K := K) rfl) (pv 1) (pv 2) rfl))) pa_nil)) (fun _ => rfl))))) (fun _ _ _ _ _ => (pv 1))) pa_nil)))), ?_⟩
    refine s_retU (xs := nv (loopF size fm t)) (eu_tupOf ?_) fun r H3 hr3 e3 h3 => q r H3 hr3 e3 h3
    have inner : ∀ (x : Nat) H1, Ex H H1 → x < size → EvL (tLc (iTup K (tFld K (tVar 0) "_bases")) (gName 2) tYes (tOp (rIn K false) (tVar 1) (tVar 2)) [2]) [some (.ref b), some (.int (x : Nat)), none] H1 (bv (bm.map fun m => m.testBit x)) := fun x H1 e1 hx => by
      have el := el_lotsT (K := K) (te := tOp (rIn K false) (tVar 1) (tVar 2)) (tl := tFld K (tVar 0) "_bases") (j := 2) (vs := [2]) (σ := [some (.ref b), some (.int (x : Nat)), none]) (H := H1) (fun ns => .bl (decide (x ∈ ns))) (ev_fld (ev_v 0) (e1 _ _ g1) CC.cls CC.a3 g3) (st_of (e1 _ _ g6)) (g7.ex e1) (by rw [List.length_map]; omega) (fun _ => rfl) (fun r ns H2 e2 hr hns => ev_inLot (ev_v 1) (ev_v 2) hr)
      have e3 : (bm.map lotF).map (fun ns => V.bl (decide (x ∈ ns))) = bv (bm.map fun m => m.testBit x) := by
        unfold bv
        simp only [List.map_map]
        refine List.map_congr_left fun m _ => ?_
        show V.bl (decide (x ∈ lotF m)) = _
        rw [mem_lotF (by omega)]; rfl
      rw [e3] at el
      exact el
    have := el_rng (ta := tCons (tFld K (tFld K (tVar 0) "family") "size") tNil) (j := 1) (vs := [1]) (t := tNot (fun σ H Q => tCB (rAny K) (tCons (tLc (iTup K (tFld K (tVar 0) "_bases")) (gName 2) tYes (tOp (rIn K false) (tVar 1) (tVar 2)) [2]) tNil) σ H fun x H' => ∃ k, TruV K x H' k ∧ Q k H')) (te := tVar 1) (σ := [some (.ref b), none, none]) (H := H) (n := size) (fun x => !heldB fm t x) (fun x => V.int (x : Nat)) (ea_cons (ev_size g9 C (ev_fld (ev_v 0) g1 CC.cls CC.a1 g2)) ea_nil) (by omega) (fun _ => rfl) (fun x H1 e1 hx => by
      refine et_not (et_is (et_truB (ev_anyL (inner x H1 e1 hx))) ?_)
      rw [List.any_map]
      unfold heldB
      exact any_perm g8.1 _) (fun x H1 e1 hx _ => ev_v 1)
    exact this
theorem held_down {size : Nat} {fm : List Nat} (ok : FamOk size fm) {t x : Nat} (ht : t < 1 <<< size) : x ∈ downF size fm t ↔ x < size ∧ heldB fm t x = true := by
  rw [down_mem ok ht]
  unfold heldB
  rw [List.any_eq_true]
theorem eu_loops {i : Nat} {σ : L2.St} {H : Hp} {b : Addr} {size : Nat} {fm : List Nat} {t : Nat} {E : XK} (hA : AtAt H CF CA b size fm t) (ok : FamOk size fm) (ht : t < 1 <<< size) (hi : σ[i]? = some (some (.ref b)) := by rfl) : EvU (tMeth CA "loops" (spLoops CF CA) [] E (tVar i) tNil) σ H (nv (loopF size fm t)) := fun H1 e Q q => by
  obtain ⟨a, dx, fs, bp, rs, bm, g1, g2, g3, g4, g5, g6, g7, g8, g9⟩ := id (hA.ex e)
  exact ⟨.ref b, hi, b, dx, fs, rfl, g1, g5.2.2.1, b, size, fm, t, rfl, hA.ex e, ok, ht, q⟩
def spContr (CF CA : Addr) : Sp := fun vs H Q _ => ∃ (b : Addr) (x size : Nat) (fm : List Nat) (t : Nat), vs = [.ref b, .int x] ∧ AtAt H CF CA b size fm t ∧ FamOk size fm ∧ t < 1 <<< size ∧ x ∈ downF size fm t ∧ ∀ L : List (List Nat), L.Perm ((basesF fm (t ^^^ (1 <<< x))).map lotF) → L.Pairwise lexLe → RetLots L H Q
end
end W7
end
section
namespace W7
open PySem PySem.Spec PyProof.Rows L2 L3 Evl
open C8 (Cal pe_c Mak pe_mk Met pe_mt pe_mt0)
def rowK (size : Nat) (F : Nat → Bool) : List Bool := (List.range (1 <<< size)).map F
theorem rowK_get {size : Nat} {F : Nat → Bool} {m : Nat} (h : m < 1 <<< size) : (bv (rowK size F))[m]? = some (.bl (F m)) := by
  unfold bv rowK
  rw [List.getElem?_map, List.getElem?_map, List.getElem?_range h]; rfl
theorem rowK_len {size : Nat} {F : Nat → Bool} : (bv (rowK size F)).length = 1 <<< size := by rw [bv_len]; unfold rowK; rw [List.length_map, List.length_range]
theorem rowK_set {size m : Nat} {F G : Nat → Bool} (hm : m < 1 <<< size) (h : ∀ i, G i = (F i || decide (i = m))) : (bv (rowK size F)).set m (.bl true) = bv (rowK size G) := by
  unfold rowK
  refine map_set hm fun i => ?_
  rw [h i]
  by_cases e : i = m
  · rw [if_pos e, e]; simp
  · rw [if_neg e]; simp [e]
theorem rowK_congr {size : Nat} {F G : Nat → Bool} (h : ∀ m, m < 1 <<< size → F m = G m) : rowK size F = rowK size G := by
  unfold rowK
  exact List.map_congr_left fun m hm => h m (List.mem_range.mp hm)
theorem sh_pos (size : Nat) : 0 < 1 <<< size := by rw [Nat.one_shiftLeft]; exact Nat.two_pow_pos _
section
variable {P : Program} {w : World} {K : PySem.W.Frag} {mg : Str → Option Value} {base : Heap} {f : Addr} {fd : FuncData} {CF CA : Addr}
def spBas (R : Nat → List Nat → Hp → VK → Prop) : Sp := fun vs H Q _ => ∃ (size : Nat) (p : Addr) (rs : List V) (bm : List Nat), vs = [.int size, .ref p] ∧ size ≤ 5 ∧ H p = some (.tup rs) ∧ Lots H rs (bm.map lotF) ∧ (∀ b ∈ bm, b < 1 <<< size) ∧ bm.length ≤ 64 ∧ R size bm H Q
theorem sc_independent_row : FnScope ["size", "bases", "independent", "_", "base", "mask", "thing"] ["size", "bases"] (defScope (top 45)) := ⟨rfl, rfl, rfl, by decide +kernel, rfl, by decide +kernel, by decide +kernel⟩
theorem c_independent_row (F : FnP K "independent_row" (top 45) f fd) (g : mg "independent_row" = some (.ref f)) (B : Bi mg) (c_mask_of : Cal P w K mg base 1 "mask_of" spMaskOf []) : Cal P w K mg base 2 "independent_row" (spBas fun size bm => RetL (bv (rowK size (indB bm)))) [] := by
  refine mkCal F g sc_independent_row (fun _ _ _ _ _ _ us hl => match us, hl with | [_, _], _ => rfl) (fun vs H Q E h => ?_) (fun cdv A outer s H vs Q E hr h => ?_)
  · obtain ⟨size, p, rs, bm, rfl, _⟩ := h
    rfl
  · obtain ⟨size, p, rs, bm, rfl, hz, hp, hL, hb, hl, q⟩ := h
    have h64 := pow64 (n := size) (by omega)
    have hpos := sh_pos size
    refine ⟨_, (pss_cons (ps_setLc (i := 2) (own := [("_", 3)]) (g := gName 3) (by rfl) sc_independent_row.nd rfl rfl (sw_true rfl rfl rfl (by decide +kernel)) (pi_range1 rfl B.range (pa_cons (pe_op on_shl (pe_nat 1 pe_int) (pv 0)) pa_nil)) (blkOk_by (own := [("_", 3)]) (N := ["size", "bases", "independent", "_", "base", "mask", "thing"]) (sc := defScope (top 45)) (by decide +kernel)) (fun _ _ _ _ _ => (pg_name (i := 3) sc_independent_row.nd rfl (by first | exact Or.inl rfl | exact Or.inr rfl))) (fun _ _ _ _ _ => pts_nil) (fun _ _ _ _ _ => pe_bl)) (pss_cons (ps_for PassesOwn.never rfl (pi_tup (pv 1)) (pg_name (i := 4) sc_independent_row.nd rfl (by first | exact Or.inl rfl | exact Or.inr rfl)) (pss_one (ps_asg pe_bl (pg_sub (pv 2) (pe_c c_mask_of hr (by decide) rfl (pa_cons (pv 4) pa_nil)) set_list)))) (pss_cons (ps_for PassesOwn.never rfl (pi_revR rfl B.reversed (prg_1 rfl B.range (pe_op on_shl (pe_nat 1 pe_int) (pv 0)))) (pg_name (i := 5) sc_independent_row.nd rfl (by first | exact Or.inl rfl | exact Or.inr rfl)) (pss_one (ps_if (pt_val (pe_ix (on_ix (K := K)) (pv 2) (pv 5) (fun _ _ => rfl))) (pss_one (ps_for PassesOwn.never rfl (pi_range1 rfl B.range (pa_cons (pv 0) pa_nil)) (pg_name (i := 6) sc_independent_row.nd rfl (by first | exact Or.inl rfl | exact Or.inr rfl)) (pss_one (ps_asg pe_bl (pg_sub (pv 2) (pe_op op_and (pv 5) (pe_un un_inv (pe_op on_shl (pe_nat 1 pe_int) (pv 6)))) set_list))))) pss_nil))) (pss_one (ps_ret (pv 2)))))), ?_⟩
    refine q_asgL (el_rng (n := 1 <<< size) (fun _ => true) (fun _ => .bl false) (ea_cons (ev_nc ev_c (ev_v 0) ⟨by decide, by omega⟩) ea_nil) (by omega) (fun _ => rfl) (fun _ _ _ _ => et_yes) (fun _ _ _ _ _ => ev_c)) fun r H1 hr1 e1 h1 => ?_
    have h10 : H1 r = some (.lst (bv (rowK size fun m => decide (m ∈ bm.take 0)))) := by
      rw [h1]
      unfold bv rowK
      rw [List.map_map, List.filter_eq_self.mpr (fun _ _ => rfl)]
      refine congrArg some (congrArg HO.lst (List.map_congr_left fun a _ => ?_))
      simp
    have hlen : rs.length = bm.length := by rw [hL.1, List.length_map]
    refine q_forT (xs := rs) (ev_v 1) (st_of (e1 _ _ hp)) (fun i σ H' => Ex H H' ∧ H' r = some (.lst (bv (rowK size fun m => decide (m ∈ bm.take i)))) ∧ ∃ v3 v4 v5 v6, σ = [some (.int size), some (.ref p), some (.ref r), v3, v4, v5, v6]) (fun H2 e2 => ⟨e1.trans e2, e2 _ _ h10, _, _, _, _, rfl⟩) (fun i σ H' _ h => st_of (h.1 _ _ hp)) ?_ ?_
    · rintro i x σ H' hx ⟨e0, h2, v3, v4, v5, v6, rfl⟩
      have hi : i < bm.length := by rw [← hlen]; exact (List.getElem?_eq_some_iff.mp hx).1
      have hn : bm[i]? = some bm[i] := List.getElem?_eq_some_iff.mpr ⟨hi, rfl⟩
      obtain ⟨b, rfl, hbt⟩ := (hL.2 i x (lotF bm[i]) hx (by rw [List.getElem?_map, hn]; rfl)).ex e0
      have hbm := hb _ (List.getElem_mem hi)
      have htk : bm.take (i + 1) = bm.take i ++ [bm[i]] := by rw [List.take_add_one, hn]; rfl
      generalize bm[i] = m at hbt hbm htk hn
      show tAsg _ _ _ [some (.int size), some (.ref p), some (.ref r), v3, some (.ref b), v5, v6] H'
      refine s_setL (j := m) h2 ev_c (ev_v 2) (ev_call (ea_cons (ev_v 4) ea_nil) fun H3 e3 Q3 q3 E3 => ⟨b, lotF m, rfl, .inr (e3 _ _ hbt), fun y hy => by have := lotF_lt hy; omega, by rw [orF_lot m (by omega)]; exact q3⟩) (by rw [rowK_len]; exact hbm) fun H3 e3 => ⟨Ex.mut (e0.trans e3) hr1, ?_, _, _, _, _, rfl⟩
      rw [upd_same, htk, rowK_set hbm fun k => ?_]
      simp [List.mem_append]
    · rintro σ H2 ⟨e0, h2, v3, v4, v5, v6, rfl⟩
      rw [hlen, List.take_length] at h2
      have h20 : H2 r = some (.lst (bv (rowK size (stK size bm 0)))) := h2
      have hb2 : ((1 <<< size : Nat) : Int) ≤ 64 := by omega
      refine ev_nc (g := fun a b => .int ((a <<< b : Nat) : Int)) (a := 1) (b := size) ev_c (ev_v 0) ⟨by decide, by omega⟩ H2 (Ex.refl _) _ fun H2b e2b => ⟨((1 <<< size : Nat) : Int), rfl, by omega, by omega, by omega, by omega, for_rangeC (fun i σ H' => Ex H H' ∧ H' r = some (.lst (bv (rowK size (stK size bm i)))) ∧ ∃ v3 v4 v5 v6, σ = [some (.int size), some (.ref p), some (.ref r), v3, v4, v5, v6]) ⟨e0.trans e2b, e2b _ _ h20, _, _, _, _, rfl⟩ ?_ ?_⟩
      · rintro i σ H' hi ⟨e3, h3, v3, v4, v5, v6, rfl⟩
        have his : i < 1 <<< size := by omega
        have eth : ∀ N : Nat, N = 1 <<< size → (0 : Int) + (((((N : Int) - 0).toNat : Nat) : Int)) - 1 + ((i : Nat) : Int) * (-1) = ((N - 1 - i : Nat) : Int) := fun N hN => by omega
        rw [eth _ rfl]
        have hk : (1 <<< size) - 1 - i < 1 <<< size := by omega
        generalize hkk : (1 <<< size) - 1 - i = k at hk
        show tIfS _ _ _ _ [some (.int size), some (.ref p), some (.ref r), v3, v4, some (.int (k : Nat)), v6] H'
        refine s_when (b := stK size bm i k) (et_B (ev_ix (sq_of h3) (ev_v 2) (ev_v 5) (rowK_get hk))) (fun hbk H4 e4 => ?_) (fun hbk H4 e4 => ⟨e3.trans e4, ?_, _, _, _, _, rfl⟩)
        · refine s_forR1 (n := (size : Int)) (ea_cons (ev_v 0) ea_nil) (by omega) (fun j σ H' => Ex H H' ∧ H' r = some (.lst (bv (rowK size fun m => stK size bm i m || (List.range j).any fun x => decide (m = clr k x)))) ∧ ∃ v6, σ = [some (.int size), some (.ref p), some (.ref r), v3, v4, some (.int (k : Nat)), v6]) (fun H5 e5 => ⟨e3.trans (e4.trans e5), ?_, _, rfl⟩) ?_ ?_
          · rw [e5 _ _ (e4 _ _ h3)]
            simp
          · rintro x σ H5 hx ⟨e5, h5, v6', rfl⟩
            have hxs : x < size := by omega
            have hc : clr k x < 1 <<< size := Nat.lt_of_le_of_lt (clr_le k x) hk
            refine s_setL (j := clr k x) h5 ev_c (ev_v 2) (ev_is (ev_op (x := .int (k : Nat)) (y := .int (Builtin.bitNot ((1 <<< x : Nat) : Int))) (ev_v 5) (ev_un (x := .int ((1 <<< x : Nat) : Int)) (ev_nc ev_c (ev_v 6) ⟨by decide, by omega⟩) (fun H6 _ _ q6 => ⟨_, rfl, q6 H6 (Ex.refl _)⟩)) rv_I0) (by rw [clr_int]; rfl)) (by rw [rowK_len]; exact hc) fun H6 e6 => ⟨Ex.mut (e5.trans e6) hr1, ?_, _, rfl⟩
            rw [upd_same, rowK_set hc fun m => ?_]
            rw [List.range_succ, List.any_append]
            simp [Bool.or_assoc]
          · rintro σ H5 ⟨e5, h5, v6', rfl⟩
            have e : ((size : Int)).toNat = size := by omega
            rw [e] at h5
            refine ⟨e5, ?_, _, _, _, _, rfl⟩
            rw [h5]
            refine congrArg some (congrArg HO.lst (congrArg bv (rowK_congr fun m _ => ?_)))
            show _ = (stK size bm i m || (stK size bm i ((1 <<< size) - 1 - i) && (List.range size).any fun x => decide (m = clr ((1 <<< size) - 1 - i) x)))
            rw [hkk, hbk]
            simp
        · rw [e4 _ _ h3]
          refine congrArg some (congrArg HO.lst (congrArg bv (rowK_congr fun m _ => ?_)))
          show _ = (stK size bm i m || (stK size bm i ((1 <<< size) - 1 - i) && (List.range size).any fun x => decide (m = clr ((1 <<< size) - 1 - i) x)))
          rw [hkk, hbk]
          simp
      · rintro σ H' ⟨e3, h3, v3, v4, v5, v6, rfl⟩
        have e : (((1 <<< size : Nat) : Int) - 0).toNat = 1 <<< size := by omega
        rw [e] at h3
        have hfin : rowK size (stK size bm (1 <<< size)) = rowK size (indB bm) := rowK_congr fun m hm => st_ind hz hb hm
        rw [hfin] at h3
        exact s_ret (ev_v 2) fun H4 e4 => q r H4 hr1 (e3.trans e4) (e4 _ _ h3)
end
end W7
end
section
namespace W7
open PySem PySem.Spec PyProof.Rows L2 L3 Evl
open C8 (Cal pe_c Mak pe_mk Met pe_mt pe_mt0)
def smL (size m : Nat) : List Nat := ((List.range size).filter fun x => decide ((m >>> x) &&& 1 ≠ 0)).map fun x => m ^^^ (1 <<< x)
def circB (size : Nat) (bm : List Nat) (m : Nat) : Bool := !indB bm m && (smL size m).all (indB bm)
def circF (size : Nat) (bm : List Nat) : List Nat := (List.range (1 <<< size)).filter (circB size bm)
theorem sm_lt {size m n : Nat} (hm : m < 1 <<< size) (h : n ∈ smL size m) : n < 1 <<< size := by
  obtain ⟨x, hx, rfl⟩ := List.mem_map.mp h
  exact tog_sh hm (List.mem_range.mp (List.mem_filter.mp hx).1)
def mrgF (marks sh : List Nat) : List Nat := marks.map fun mk => if mk ∈ sh then mn sh else mk
def stepM (marks lot : List Nat) : List Nat := mrgF marks (lot.map fun v => marks.getD v 0)
def marksF (size : Nat) (L : List (List Nat)) : List Nat := L.foldl stepM (List.range size)
def clsF (size : Nat) (marks : List Nat) : List (List Nat) := ((List.range size).filter fun v => decide (v ∈ marks)).map fun mk => (List.range size).filter fun v => decide (marks.getD v 0 = mk)
def putF (size : Nat) (L : List (List Nat)) : List (List Nat) := clsF size (marksF size L)
theorem step_ok {size : Nat} {marks lot : List Nat} (h1 : marks.length = size) (h2 : ∀ m ∈ marks, m < size) (h3 : ∀ v ∈ lot, v < size) : (stepM marks lot).length = size ∧ ∀ m ∈ stepM marks lot, m < size := by
  unfold stepM mrgF
  refine ⟨by rw [List.length_map]; exact h1, fun m hm => ?_⟩
  obtain ⟨k, hk, rfl⟩ := List.mem_map.mp hm
  by_cases hc : k ∈ lot.map fun v => marks.getD v 0
  · rw [if_pos hc]
    obtain ⟨v, hv, e⟩ := List.mem_map.mp (mn_ok (List.ne_nil_of_mem hc)).1
    rw [← e]
    have hvl : v < marks.length := by rw [h1]; exact h3 v hv
    rw [List.getD_eq_getElem?_getD, List.getElem?_eq_getElem hvl]
    exact h2 _ (List.getElem_mem hvl)
  · rw [if_neg hc]
    exact h2 k hk
theorem marks_ok {size : Nat} : ∀ {L : List (List Nat)} {marks : List Nat}, marks.length = size → (∀ m ∈ marks, m < size) → (∀ l ∈ L, ∀ v ∈ l, v < size) → (L.foldl stepM marks).length = size ∧ ∀ m ∈ L.foldl stepM marks, m < size
  | [], marks, h1, h2, _ => ⟨h1, h2⟩
  | l :: L, marks, h1, h2, h3 => by
    obtain ⟨a, b⟩ := step_ok h1 h2 (h3 l List.mem_cons_self)
    exact marks_ok (L := L) (marks := stepM marks l) a b fun l' hl' => h3 l' (List.mem_cons_of_mem _ hl')
theorem nv_getD {ns : List Nat} {i : Nat} (h : i < ns.length) : (nv ns)[i]? = some (.int (ns.getD i 0 : Nat)) := by
  unfold nv
  rw [List.getElem?_map, List.getElem?_eq_getElem h, List.getD_eq_getElem?_getD, List.getElem?_eq_getElem h]; rfl
section
variable {K : PySem.W.Frag} {w : World} {σ : L2.St} {H : Hp} {ta tb te tl : TE} {v : V} {tt : TT}
theorem ev_minV {ns : List Nat} {a : Addr} (h : Ev te σ H (.ref a)) (hx : SqL K H a (nv ns)) (hne : ns ≠ []) : Ev (tCB (rMin K) (tCons te tNil)) σ H (.int (mn ns : Nat)) := fun H1 e Q q => h H1 e _ fun H2 e2 => by
  obtain ⟨h1, h2⟩ := mn_ok hne
  have hx2 : SqL K H2 a (nv ns) := ex_l (e.trans e2) hx
  refine ⟨a, ns.map fun n => ((n : Nat) : Int), rfl, by rw [List.map_map]; exact hx2, by rw [List.length_map]; exact List.length_pos_of_mem h1, fun k hk hk2 => ?_⟩
  obtain ⟨n, hn, rfl⟩ := List.mem_map.mp hk
  have h3 := hk2 _ (List.mem_map.mpr ⟨mn ns, h1, rfl⟩)
  have h4 := h2 n hn
  have : n = mn ns := by omega
  rw [this]
  exact q H2 e2
theorem el_lotsN {ns : List Nat} {j : Nat} {vs : List Nat} (T : Nat → List Nat) (h : EvL tl σ H (nv ns)) (hz : ns.length ≤ 40000) (hw : ∀ x, wipe ((wipe σ vs).set j (some x)) vs = wipe σ vs)
    (he : ∀ (n : Nat) H1, Ex H H1 → n ∈ ns → EvU te ((wipe σ vs).set j (some (.int (n : Nat)))) H1 (nv (T n))) : EvLots (tLc (iList K tl) (gName j) tYes te vs) σ H (ns.map T) := fun H1 e Q q => h H1 e _ fun p H2 hp e2 h2 =>
  el_lots (K := K) (tl := tC (.ref p)) (te := te) (σ := σ) (H := H2) (j := j) (vs := vs) T ev_c (sq_of h2) hz hw (fun n H3 e3 hn => he n H3 ((e.trans e2).trans e3) hn) H2 (Ex.refl _) Q (fun r rs H3 hr e3 h3 h4 => q r rs H3 (fresh_back e2 hr) (e2.trans e3) h3 h4)
theorem srt_uniq {ns : List Int} {ms : List Nat} (h1 : ns.Pairwise (· < ·)) (h2 : ms.Pairwise (· < ·)) (h : ∀ k : Int, k ∈ ns ↔ k ∈ ms.map fun n => ((n : Nat) : Int)) : ns = ms.map fun n => ((n : Nat) : Int) := by
  have h3 : (ms.map fun n => ((n : Nat) : Int)).Pairwise (· < ·) := by
    rw [List.pairwise_map]
    exact h2.imp fun h => by omega
  have p : ns.Perm (ms.map fun n => ((n : Nat) : Int)) := (List.perm_ext_iff_of_nodup (h1.imp fun h => by omega) (h3.imp fun h => by omega)).mpr h
  exact p.eq_of_pairwise (fun a b _ _ x y => by omega) h1 h3
/-- sorted(set(ms)), ms a list of naturals below size -/
theorem el_sortSet {ms : List Nat} {a : Addr} {size : Nat} (h : Ev te σ H (.ref a)) (hx : SqL K H a (nv ms)) (hl : ms.length < 64) (hb : ∀ m ∈ ms, m < size) : EvL (tCB (rSortedSet w) (tCons (tCB (rSetOfL K w) (tCons te tNil)) tNil)) σ H (nv ((List.range size).filter fun v => decide (v ∈ ms))) := fun H1 e Q q => h H1 e _ fun H2 e2 => by
  have hx2 : SqL K H2 a (nv ms) := ex_l (e.trans e2) hx
  refine ⟨a, ms.map fun n => ((n : Nat) : Int), rfl, by rw [List.map_map]; exact hx2, by rw [List.length_map]; omega, fun p c hp hc => ⟨p, _, c, rfl, upd_same, by rw [List.length_map] at hc; omega, fun ns r n1 n2 n3 hr => ?_⟩⟩
  have e3 := srt_uniq n1 (ms := (List.range size).filter fun v => decide (v ∈ ms)) ((List.pairwise_lt_range).filter _) (fun k => by
    rw [n2, decide_eq_true_eq]
    constructor
    · intro hk
      obtain ⟨m, hm, rfl⟩ := List.mem_map.mp hk
      exact List.mem_map.mpr ⟨m, List.mem_filter.mpr ⟨List.mem_range.mpr (hb m hm), decide_eq_true hm⟩, rfl⟩
    · intro hk
      obtain ⟨m, hm, rfl⟩ := List.mem_map.mp hk
      exact List.mem_map.mpr ⟨m, of_decide_eq_true (List.mem_filter.mp hm).2, rfl⟩)
  have hpH := Ex.new (o := SetO w p (fun j => decide (j ∈ ms.map fun n => ((n : Nat) : Int))) c) hp
  have hrH := Ex.new (o := .lst (ns.map V.int)) hr
  refine q r _ (fresh_back (e2.trans hpH) hr) ((e2.trans hpH).trans hrH) ?_
  rw [upd_same, e3]
  unfold nv
  rw [List.map_map]; rfl
end
section
variable {P : Program} {w : World} {K : PySem.W.Frag} {mg : Str → Option Value} {base : Heap} {f : Addr} {fd : FuncData} {CF CA : Addr}
theorem sc_circuit_masks : FnScope ["size", "bases", "independent", "circuits", "mask", "free", "smaller", "thing", "less"] ["size", "bases"] (defScope (top 46)) := ⟨rfl, rfl, rfl, by decide +kernel, rfl, by decide +kernel, by decide +kernel⟩
theorem c_circuit_masks (F : FnP K "circuit_masks" (top 46) f fd) (g : mg "circuit_masks" = some (.ref f)) (B : Bi mg) (c_independent_row : Cal P w K mg base 2 "independent_row" (spBas fun size bm => RetL (bv (rowK size (indB bm)))) []) : Cal P w K mg base 3 "circuit_masks" (spBas fun size bm => RetL (nv (circF size bm))) [] := by
  refine mkCal F g sc_circuit_masks (fun _ _ _ _ _ _ us hl => match us, hl with | [_, _], _ => rfl) (fun vs H Q E h => ?_) (fun cdv A outer s H vs Q E hr h => ?_)
  · obtain ⟨size, p, rs, bm, rfl, _⟩ := h
    rfl
  · obtain ⟨size, p, rs, bm, rfl, hz, hp, hL, hb, hl, q⟩ := h
    have h64 := pow64 (n := size) (by omega)
    refine ⟨_, (pss_cons (ps_set (i := 2) sc_circuit_masks.nd rfl (by first | exact Or.inl rfl | exact Or.inr rfl) (pe_c c_independent_row hr (by decide) rfl (pa_cons (pv 0) (pa_cons (pv 1) pa_nil)))) (pss_cons (ps_set (i := 3) sc_circuit_masks.nd rfl (by first | exact Or.inl rfl | exact Or.inr rfl) (pe_lst pa_nil)) (pss_cons (ps_for PassesOwn.never rfl (pi_enumA (by rfl) B.enumerate (pa_cons (pv 2) pa_nil)) (pg_tup rfl (pgs_cons (pg_name (i := 4) sc_circuit_masks.nd rfl (by first | exact Or.inl rfl | exact Or.inr rfl)) (pgs_cons (pg_name (i := 5) sc_circuit_masks.nd rfl (by first | exact Or.inl rfl | exact Or.inr rfl)) pgs_nil))) (pss_cons (ps_setLc (i := 6) (own := [("thing", 7)]) (g := gName 7) (by rfl) sc_circuit_masks.nd rfl rfl (sw_true rfl rfl rfl (by decide +kernel)) (pi_range1 rfl B.range (pa_cons (pv 0) pa_nil)) (blkOk_by (own := [("thing", 7)]) (N := ["size", "bases", "independent", "circuits", "mask", "free", "smaller", "thing", "less"]) (sc := defScope (top 46)) (by decide +kernel)) (fun _ _ _ _ _ => (pg_name (i := 7) sc_circuit_masks.nd rfl (by first | exact Or.inl rfl | exact Or.inr rfl))) (fun _ _ _ _ _ => (pts_one (pt_truthK (K := K) rfl (pe_op on_and (pe_op on_shr (pv 4) (pv 7)) (pe_nat 1 pe_int)) (fun _ => rfl)))) (fun _ _ _ _ _ => (pe_op on_xor (pv 4) (pe_op on_shl (pe_nat 1 pe_int) (pv 7))))) (pss_one (ps_if (PW.pt (pw_and (pt_not (pt_val (pv 5))) (pw_and1 (pt_truthK (K := K) rfl (pe_callB (cr_allK (K := K) rfl rfl) (by rfl) B.all (by decide +kernel) (pa_cons (pe_lc (own := [("less", 8)]) (g := gName 8) (by rfl) sc_circuit_masks.nd (pi_list (pv 6)) (blkOk_by (own := [("less", 8)]) (N := ["size", "bases", "independent", "circuits", "mask", "free", "smaller", "thing", "less"]) (sc := defScope (top 46)) (by decide +kernel)) (fun _ _ _ _ _ => (pg_name (i := 8) sc_circuit_masks.nd rfl (by first | exact Or.inl rfl | exact Or.inr rfl))) (fun _ _ _ _ _ => pts_nil) (fun _ _ _ _ _ => (pe_ix (on_ix (K := K)) (pv 2) (pv 8) (fun _ _ => rfl)))) pa_nil)) (fun _ => rfl))))) (pss_one (ps_expr (pe_bm PySem.F.plainAttrs_list PySem.F.slot_list_append PySem.F.type_list_append mt_append (pv 3) (pa_cons (pv 4) pa_nil)))) pss_nil)))) (pss_one (ps_ret (pv 3)))))), ?_⟩
    refine q_asgL (el_call (ea_cons (ev_v 0) (ea_cons (ev_v 1) ea_nil)) fun H2 e2 Q2 q2 E2 => ⟨size, p, rs, bm, rfl, hz, e2 _ _ hp, hL.ex e2, hb, hl, q2⟩) fun r H1 hr1 e1 h1 => ?_
    refine q_asgL (el_lst ea_nil (by decide)) fun c H2 hc e2 h2 => ?_
    have hcH := fresh_back e1 hc
    refine ⟨.ref r, rfl, r, bv (rowK size (indB bm)), rfl, .inl ⟨sq_of (e2 _ _ h1), for_enumL (fun i σ H' => Ex H H' ∧ H' r = some (.lst (bv (rowK size (indB bm)))) ∧ H' c = some (.lst (nv ((List.range i).filter (circB size bm)))) ∧ ∃ v4 v5 v6 v7 v8, σ = [some (.int size), some (.ref p), some (.ref r), some (.ref c), v4, v5, v6, v7, v8]) ⟨e1.trans e2, e2 _ _ h1, h2, _, _, _, _, _, rfl⟩ (fun i σ H' _ h => sq_of h.2.1) ?_ ?_⟩⟩
    · rintro i x σ H' T hx ⟨e0, h3, h4, v4, v5, v6, v7, v8, rfl⟩ hT
      have his : i < 1 <<< size := by rw [← rowK_len (F := indB bm)]; exact (List.getElem?_eq_some_iff.mp hx).1
      have hxv : x = .bl (indB bm i) := Option.some.inj (hx.symm.trans (rowK_get his))
      subst hxv
      have eT := Ex.new (o := .tup [.int (i : Nat), .bl (indB bm i)]) hT
      refine ⟨T, _, rfl, st_of upd_same, rfl, _, _, rfl, _, _, rfl, rfl, ?_⟩
      have e3 := e0.trans eT
      have h3' := eT _ _ h3
      have h4' := eT _ _ h4
      generalize upd H' T (.tup [.int (i : Nat), .bl (indB bm i)]) = H3 at e3 h3' h4'
      show tSeq _ _ _ [some (.int size), some (.ref p), some (.ref r), some (.ref c), some (.int (i : Nat)), some (.bl (indB bm i)), v6, v7, v8] H3
      have el := el_rng (ta := tCons (tVar 0) tNil) (j := 7) (vs := [7]) (t := fun σ H Q => tOp (rN0 fun a b => .int ((a &&& b : Nat) : Int)) (tOp (rN0 fun a b => .int ((a >>> b : Nat) : Int)) (tVar 4) (tVar 7)) (tC (.int ((1 : Nat) : Int))) σ H fun x H' => ∃ k, TruV K x H' k ∧ Q k H') (te := tOp (rN0 fun a b => .int ((a ^^^ b : Nat) : Int)) (tVar 4) (tOp (rN (fun a b => a < 64 ∧ b < 64) fun a b => .int ((a <<< b : Nat) : Int)) (tC (.int ((1 : Nat) : Int))) (tVar 7))) (σ := [some (.int size), some (.ref p), some (.ref r), some (.ref c), some (.int (i : Nat)), some (.bl (indB bm i)), v6, v7, v8]) (H := H3) (n := size) (fun x => decide ((i >>> x) &&& 1 ≠ 0)) (fun x => .int ((i ^^^ (1 <<< x) : Nat) : Int)) (ea_cons (ev_v 0) ea_nil) (by omega) (fun _ => rfl) (fun x H4 e4 hx => et_truth (ev_n (ev_n (ev_v 4) (ev_v 7)) ev_c)) (fun x H4 e4 hx _ => ev_n (ev_v 4) (ev_nc ev_c (ev_v 7) ⟨by decide, by omega⟩))
      have ee : ((List.range size).filter fun x => decide ((i >>> x) &&& 1 ≠ 0)).map (fun x => V.int ((i ^^^ (1 <<< x) : Nat) : Int)) = nv (smL size i) := by
        unfold nv smL
        rw [List.map_map]; rfl
      rw [ee] at el
      refine q_asgL el fun d H4 hd e4 h4d => ?_
      have sml : (smL size i).length ≤ 5 := by
        unfold smL
        rw [List.length_map]
        refine Nat.le_trans (List.length_filter_le _ _) ?_
        rw [List.length_range]; exact hz
      have hci := e4 _ _ h4'
      refine s_when (b := circB size bm i) (et_and (et_not (et_B (ev_v 5))) fun _ => ?_) (fun hbc H5 e5 => ?_) (fun hbc H5 e5 => ⟨e3.trans (e4.trans e5), e5 _ _ (e4 _ _ h3'), ?_, _, _, _, _, _, rfl⟩)
      · have ea := el_nats (K := K) (tl := tVar 6) (te := tOp (rIxN K) (tVar 2) (tVar 8)) (t := tYes) (j := 8) (vs := [8]) (a := d) (ns := smL size i) (σ := [some (.int size), some (.ref p), some (.ref r), some (.ref c), some (.int (i : Nat)), some (.bl (indB bm i)), some (.ref d), v7, v8]) (H := H4) (fun _ => true) (fun n => .bl (indB bm n)) (ev_v 6) (sq_of h4d) (by omega) (fun _ => rfl) (fun _ _ _ _ => et_yes) (fun n H5 e5 hn _ => ev_ix (sq_of (e5 _ _ (e4 _ _ h3'))) (ev_v 2) (ev_v 8) (rowK_get (sm_lt his hn)))
        rw [List.filter_eq_self.mpr (fun _ _ => rfl)] at ea
        have e6 : (smL size i).map (fun n => V.bl (indB bm n)) = bv ((smL size i).map (indB bm)) := by unfold bv; rw [List.map_map]; rfl
        rw [e6] at ea
        refine et_is (et_truB (ev_allL ea)) ?_
        rw [List.all_map]; rfl
      · refine s_app (e5 _ _ hci) (ev_v 3) (ev_v 4) (by
          have := List.length_filter_le (circB size bm) (List.range i)
          rw [nv_len]
          rw [List.length_range] at this
          omega) fun H6 e6 => ⟨Ex.mut (e3.trans (e4.trans (e5.trans e6))) hcH, ?_, ?_, _, _, _, _, _, rfl⟩
        · rw [upd_ne (fun e => by rw [e, hc] at h1; cases h1)]
          exact e6 _ _ (e5 _ _ (e4 _ _ h3'))
        · rw [upd_same, List.range_succ, List.filter_append, List.filter_cons, if_pos hbc]
          unfold nv
          rw [List.map_append]; rfl
      · rw [e5 _ _ hci, List.range_succ, List.filter_append, List.filter_cons, if_neg (by rw [hbc]; decide), List.filter_nil, List.append_nil]
    · rintro σ H' ⟨e0, h3, h4, v4, v5, v6, v7, v8, rfl⟩
      rw [rowK_len] at h4
      exact s_ret (ev_v 3) fun H3 e3 => q c H3 hcH (e0.trans e3) (e3 _ _ h4)
def spLotsL (R : Nat → List (List Nat) → Hp → VK → Prop) : Sp := fun vs H Q _ => ∃ (size : Nat) (p : Addr) (rs : List V) (L : List (List Nat)), vs = [.int size, .ref p] ∧ size ≤ 5 ∧ H p = some (.lst rs) ∧ Lots H rs L ∧ (∀ l ∈ L, (∀ v ∈ l, v < size) ∧ l.length ≤ 12) ∧ R size L H Q
def RetLotsU (L : List (List Nat)) (H : Hp) (Q : VK) : Prop := ∀ p rs H2, H p = none → Ex H H2 → H2 p = some (.tup rs) → Lots H2 rs L → Q (.ref p) H2
theorem sc_put_together : FnScope ["size", "lots", "marks", "lot", "shared", "thing", "mark"] ["size", "lots"] (defScope (top 47)) := ⟨rfl, rfl, rfl, by decide +kernel, rfl, by decide +kernel, by decide +kernel⟩
theorem c_put_together (F : FnP K "put_together" (top 47) f fd) (g : mg "put_together" = some (.ref f)) (B : Bi mg) : Cal P w K mg base 1 "put_together" (spLotsL fun size L => RetLotsU (putF size L)) [] := by
  refine mkCal F g sc_put_together (fun _ _ _ _ _ _ us hl => match us, hl with | [_, _], _ => rfl) (fun vs H Q E h => ?_) (fun cdv A outer s H vs Q E hr h => ?_)
  · obtain ⟨size, p, rs, L, rfl, _⟩ := h
    rfl
  · obtain ⟨size, p, rs, L, rfl, hz, hp, hL, hb, q⟩ := h
    refine ⟨_, (pss_cons (ps_set (i := 2) sc_put_together.nd rfl (by first | exact Or.inl rfl | exact Or.inr rfl) (pe_listRg rfl (by rfl) B.list (prg_1 rfl B.range (pv 0)))) (pss_cons (ps_for PassesOwn.never rfl (pi_list (pv 1)) (pg_name (i := 3) sc_put_together.nd rfl (by first | exact Or.inl rfl | exact Or.inr rfl)) (pss_cons (ps_set (i := 4) sc_put_together.nd rfl (Or.inr rfl) (pe_lc (own := [("thing", 5)]) (g := gName 5) (by rfl) sc_put_together.nd (pi_tup (pv 3)) (blkOk_by (own := [("thing", 5)]) (N := ["size", "lots", "marks", "lot", "shared", "thing", "mark"]) (sc := defScope (top 47)) (by decide +kernel)) (fun _ _ _ _ _ => (pg_name (i := 5) sc_put_together.nd rfl (by first | exact Or.inl rfl | exact Or.inr rfl))) (fun _ _ _ _ _ => pts_nil) (fun _ _ _ _ _ => (pe_ix (on_ix (K := K)) (pv 2) (pv 5) (fun _ _ => rfl))))) (pss_one (ps_set (i := 2) sc_put_together.nd rfl (Or.inr rfl) (pe_lc (own := [("mark", 6)]) (g := gName 6) (by rfl) sc_put_together.nd (pi_list (pv 2)) (blkOk_by (own := [("mark", 6)]) (N := ["size", "lots", "marks", "lot", "shared", "thing", "mark"]) (sc := defScope (top 47)) (by decide +kernel)) (fun _ _ _ _ _ => (pg_name (i := 6) sc_put_together.nd rfl (by first | exact Or.inl rfl | exact Or.inr rfl))) (fun _ _ _ _ _ => pts_nil) (fun _ _ _ _ _ => (pe_ifExp (pt_cmpR (op_in_seqK (K := K) rfl) (pv 6) (pv 4) rfl) (pe_callB (cr_minK (K := K) rfl rfl) (by rfl) B.min (by decide +kernel) (pa_cons (pv 4) pa_nil)) (pv 6)))))))) (pss_one (ps_ret (pe_callTy call_tuple_of (by rfl) B.tuple (by decide +kernel) (pa_cons (pe_lc (own := [("mark", 6)]) (g := gName 6) (by rfl) sc_put_together.nd (pi_list (pe_callB (cr_sortedSetK (K := K) (w := w) rfl rfl rfl) (by rfl) B.sorted (by decide +kernel) (pa_cons (pe_callTy (cr_setOfLK (K := K) (w := w) rfl rfl rfl) (by rfl) B.set (by decide +kernel) (pa_cons (pv 2) pa_nil)) pa_nil))) (blkOk_by (own := [("mark", 6)]) (N := ["size", "lots", "marks", "lot", "shared", "thing", "mark"]) (sc := defScope (top 47)) (by decide +kernel)) (fun _ _ _ _ _ => (pg_name (i := 6) sc_put_together.nd rfl (by first | exact Or.inl rfl | exact Or.inr rfl))) (fun _ _ _ _ _ => pts_nil) (fun _ _ _ _ _ => (pe_callTy (call_tuple_ofK (K := K) rfl) (by rfl) B.tuple (by decide +kernel) (pa_cons (pe_lc (own := [("thing", 5)]) (g := gName 5) (by rfl) sc_put_together.nd (pi_range1 rfl B.range (pa_cons (pv 0) pa_nil)) (by exact blkOk_by (by kernel_rfl)) (fun _ _ _ _ _ => (pg_name (i := 5) sc_put_together.nd rfl (by first | exact Or.inl rfl | exact Or.inr rfl))) (fun _ _ _ _ _ => (pts_one (pt_cmpR on_eq (pe_ix (on_ix (K := K)) (pv 2) (pv 5) (fun _ _ => rfl)) (pv 6) (nomark _)))) (fun _ _ _ _ _ => (pv 5))) pa_nil)))) pa_nil)))))), ?_⟩
    refine ⟨.int (size : Nat), rfl, (size : Nat), rfl, ⟨by omega, by omega, by omega, by omega, by omega⟩, fun c hc => ?_⟩
    have e1 := Ex.new (o := .lst (rgV 0 (size : Nat))) hc
    have h1 : upd H c (.lst (rgV 0 (size : Nat))) c = some (.lst (nv (L.take 0 |>.foldl stepM (List.range size)))) := by
      rw [upd_same]
      unfold rgV nv
      refine congrArg some (congrArg HO.lst ?_)
      have e : ((size : Int) - 0).toNat = size := by omega
      rw [e]
      exact List.map_congr_left (fun i _ => by simp)
    generalize upd H c (.lst (rgV 0 (size : Nat))) = H1 at e1 h1
    have hlen := hL.1
    refine q_forLn (xs := rs) (ev_v 1) (sq_of (e1 _ _ hp)) (fun i σ H' => Ex H H' ∧ ∃ c v3 v4 v5 v6, H c = none ∧ H' c = some (.lst (nv ((L.take i).foldl stepM (List.range size)))) ∧ σ = [some (.int size), some (.ref p), some (.ref c), v3, v4, v5, v6]) (fun H2 e2 => ⟨e1.trans e2, c, _, _, _, _, hc, e2 _ _ h1, rfl⟩) (fun i σ H' _ h => sq_of (h.1 _ _ hp)) ?_ ?_
    · rintro i x σ H' hx ⟨e0, c, v3, v4, v5, v6, hc, h2, rfl⟩
      have hi : i < L.length := by rw [← hlen]; exact (List.getElem?_eq_some_iff.mp hx).1
      have hn : L[i]? = some L[i] := List.getElem?_eq_some_iff.mpr ⟨hi, rfl⟩
      obtain ⟨b, rfl, hbt⟩ := (hL.2 i x L[i] hx hn).ex e0
      obtain ⟨hlv, hll⟩ := hb _ (List.getElem_mem hi)
      have htk : L.take (i + 1) = L.take i ++ [L[i]] := by rw [List.take_add_one, hn]; rfl
      generalize L[i] = lot at hbt hlv hll htk hn
      obtain ⟨ml, mb⟩ := marks_ok (L := L.take i) (marks := List.range size) List.length_range (fun m hm => List.mem_range.mp hm) (fun l hl => (hb l (List.mem_of_mem_take hl)).1)
      generalize hmk : (L.take i).foldl stepM (List.range size) = marks at h2 ml mb
      show tSeq _ _ _ [some (.int size), some (.ref p), some (.ref c), some (.ref b), v4, v5, v6] H'
      have es := el_natsT (K := K) (tl := tVar 3) (te := tOp (rIxN K) (tVar 2) (tVar 5)) (t := tYes) (j := 5) (vs := [5]) (a := b) (ns := lot) (σ := [some (.int size), some (.ref p), some (.ref c), some (.ref b), v4, v5, v6]) (H := H') (fun _ => true) (fun v => .int (marks.getD v 0 : Nat)) (ev_v 3) (st_of hbt) (by omega) (fun _ => rfl) (fun _ _ _ _ => et_yes) (fun v H3 e3 hv _ => ev_ix (sq_of (e3 _ _ h2)) (ev_v 2) (ev_v 5) (nv_getD (by rw [ml]; exact hlv v hv)))
      have e5 : (lot.filter fun _ => true).map (fun v => V.int (marks.getD v 0 : Nat)) = nv (lot.map fun v => marks.getD v 0) := by
        unfold nv
        rw [List.filter_eq_self.mpr (fun _ _ => rfl), List.map_map]; rfl
      rw [e5] at es
      refine q_asgL es fun sh H3 hsh e3 h3 => ?_
      have h23 := e3 _ _ h2
      have em := el_nats (K := K) (tl := tVar 2) (te := tIf (tTest (tOp (rIn K false) (tVar 6) (tVar 4))) (tCB (rMin K) (tCons (tVar 4) tNil)) (tVar 6)) (t := tYes) (j := 6) (vs := [6]) (a := c) (ns := marks) (σ := [some (.int size), some (.ref p), some (.ref c), some (.ref b), some (.ref sh), v5, v6]) (H := H3) (fun _ => true) (fun mk => .int ((if mk ∈ lot.map (fun v => marks.getD v 0) then mn (lot.map fun v => marks.getD v 0) else mk : Nat) : Int)) (ev_v 2) (sq_of h23) (by omega) (fun _ => rfl) (fun _ _ _ _ => et_yes) (fun mk H4 e4 hm _ => ev_if (b := decide (mk ∈ lot.map fun v => marks.getD v 0)) (et_is (et_test (ev_op (ev_v 6) (ev_v 4) (rv_isL (K := K) (sq_of (e4 _ _ h3)) rfl (nv_flat _)))) inV_nat) (fun hc => by
        have hc := of_decide_eq_true hc
        rw [if_pos hc]
        exact ev_minV (ev_v 4) (sq_of (e4 _ _ h3)) (List.ne_nil_of_mem hc)) (fun hc => by
        rw [if_neg (of_decide_eq_false hc)]
        exact ev_v 6))
      have e6 : (marks.filter fun _ => true).map (fun mk => V.int ((if mk ∈ lot.map (fun v => marks.getD v 0) then mn (lot.map fun v => marks.getD v 0) else mk : Nat) : Int)) = nv (stepM marks lot) := by
        unfold nv stepM mrgF
        rw [List.filter_eq_self.mpr (fun _ _ => rfl), List.map_map]; rfl
      rw [e6] at em
      refine s_asgL em fun d H4 hd e4 h4 => ⟨e0.trans (e3.trans e4), d, _, _, _, _, fresh_back (e0.trans e3) hd, ?_, rfl⟩
      rw [h4, htk, List.foldl_append, hmk]
      rfl
    · rintro σ H' ⟨e0, c, v3, v4, v5, v6, hc, h2, rfl⟩
      rw [hlen, List.take_length] at h2
      obtain ⟨ml, mb⟩ := marks_ok (L := L) (marks := List.range size) List.length_range (fun m hm => List.mem_range.mp hm) (fun l hl => (hb l hl).1)
      change H' c = some (.lst (nv (marksF size L))) at h2
      change (marksF size L).length = size at ml
      change ∀ m ∈ marksF size L, m < size at mb
      have srt := el_sortSet (K := K) (w := w) (te := tVar 2) (σ := [some (.int size), some (.ref p), some (.ref c), v3, v4, v5, v6]) (H := H') (ms := marksF size L) (a := c) (size := size) (ev_v 2) (sq_of h2) (by omega) mb
      have lots := el_lotsN (K := K) (te := tCB (rTupOf K) (tCons (tLc (iRng1 (tCons (tVar 0) tNil)) (gName 5) (tTest (tOp (rN0 fun a b => .bl (decide (a = b))) (tOp (rIxN K) (tVar 2) (tVar 5)) (tVar 6))) (tVar 5) [5]) tNil)) (j := 6) (vs := [6]) (fun mk => (List.range size).filter fun v => decide ((marksF size L).getD v 0 = mk)) srt (by have := List.length_filter_le (fun v => decide (v ∈ marksF size L)) (List.range size); rw [List.length_range] at this; omega) (fun _ => rfl) (fun mk H3 e3 hm => eu_tupOf (by
        have := el_rng (ta := tCons (tVar 0) tNil) (j := 5) (vs := [5]) (t := tTest (tOp (rN0 fun a b => .bl (decide (a = b))) (tOp (rIxN K) (tVar 2) (tVar 5)) (tVar 6))) (te := tVar 5) (σ := [some (.int size), some (.ref p), some (.ref c), v3, v4, v5, some (.int (mk : Nat))]) (H := H3) (n := size) (fun v => decide ((marksF size L).getD v 0 = mk)) (fun v => .int (v : Nat)) (ea_cons (ev_v 0) ea_nil) (by omega) (fun _ => rfl) (fun v H4 e4 hv => et_test (ev_n (ev_ix (sq_of (e4 _ _ (e3 _ _ h2))) (ev_v 2) (ev_v 5) (nv_getD (by rw [ml]; exact hv))) (ev_v 6))) (fun v H4 e4 hv _ => ev_v 5)
        exact this))
      refine ret_cb (lots H' (Ex.refl _) _ fun l rs2 H3 hl e3 h3 l3 => ⟨l, rs2, rfl, .inl ⟨sq_of h3, fun t ht => ?_⟩⟩)
      have e4 := Ex.new (o := .tup rs2) ht
      exact q t rs2 _ (fresh_back (e0.trans e3) ht) ((e0.trans e3).trans e4) upd_same (l3.ex e4)
/-- the circuits in the order of the lots -/
def ccL (size : Nat) (bs : List Nat) : List (List Nat) := ((ordF size).filter (circB size bs)).map lotF
instance : DecidableRel lexLe := fun x y => by unfold lexLe; infer_instance
theorem bases_sz {size : Nat} {fm : List Nat} {t b : Nat} (ok : FamOk size fm) (ht : t < 1 <<< size) (h : b ∈ basesF fm t) : b < 1 <<< size := by
  obtain ⟨m, hm, rfl⟩ := List.mem_map.mp h
  exact xor_lt_sh (ok.lt m (List.mem_filter.mp hm).1) ht
theorem ret_call2 {σ : L2.St} {H : Hp} {D : Ends} {sp : Sp} {E : XK} {ta tb : TE} {x : V} (ha : Ev ta σ H x) (h : ∀ H1, Ex H H1 → tb σ H1 fun y H2 => sp [x, y] H2 D.rt E) : tRet (tCall sp [] E (tCons ta (tCons tb tNil))) D σ H := ha H (Ex.refl H) _ h
theorem ord_lex : ∀ size : Nat, size < 6 → ((ordF size).map lotF).Pairwise lexLe ∧ (ordF size).Nodup := by decide +kernel
theorem ind_congr {bs bm : List Nat} (h : bm.Perm bs) (m : Nat) : indB bm m = indB bs m := any_perm h _
theorem circ_congr {size : Nat} {bs bm : List Nat} (h : bm.Perm bs) : circB size bm = circB size bs := by
  funext m
  unfold circB
  have e : indB bm = indB bs := funext fun m => ind_congr h m
  rw [e]
theorem cc_of {size : Nat} {bs bm : List Nat} (h5 : size ≤ 5) (h : bm.Perm bs) {L : List (List Nat)} (h1 : L.Perm ((circF size bm).map lotF)) (h2 : L.Pairwise lexLe) : L = ccL size bs := by
  obtain ⟨o1, o2⟩ := ord_lex size (by omega)
  obtain ⟨p1, p2, p3⟩ := ord_ok size (by omega)
  refine lots_eq (h1.trans (List.Perm.map _ ?_)) h2 ?_
  · unfold circF
    rw [circ_congr h]
    refine (List.perm_ext_iff_of_nodup (List.nodup_range.filter _) (o2.filter _)).mpr fun m => ?_
    rw [List.mem_filter, List.mem_filter, List.mem_range]
    exact ⟨fun ⟨a, b⟩ => ⟨p1 m a, b⟩, fun ⟨a, b⟩ => ⟨p2 m a, b⟩⟩
  · unfold ccL
    rw [List.pairwise_map] at o1 ⊢
    exact o1.filter _
def lumpsF (size : Nat) (fm : List Nat) (t : Nat) : List (List Nat) := putF size (ccL size (basesF fm t))
def spAtL (CF CA : Addr) (R : Nat → List Nat → Nat → Hp → VK → Prop) : Sp := fun vs H Q _ => ∃ (b : Addr) (size : Nat) (fm : List Nat) (t : Nat), vs = [.ref b] ∧ AtAt H CF CA b size fm t ∧ FamOk size fm ∧ t < 1 <<< size ∧ R size fm t H Q
theorem sc_At_circuits : FnScope ["self"] ["self"] (defScope (inClass (top 48) 5)) := ⟨rfl, rfl, rfl, by decide +kernel, rfl, by decide +kernel, by decide +kernel⟩
theorem m_circuits (C : FC K CF) (CC : AC K CA) (me : Meth K CA "circuits" f) (F : FunD K "circuits" "At.circuits" (defArgs (inClass (top 48) 5)) (defBody (inClass (top 48) 5)) (defScope (inClass (top 48) 5)) [] [] f fd) (B : Bi mg) (c_circuit_masks : Cal P w K mg base 3 "circuit_masks" (spBas fun size bm => RetL (nv (circF size bm))) []) (c_lots_from : Cal P w K mg base 2 "lots_from" (spLotsFrom K) []) : Met P w K mg base 4 CA "circuits" (spAtL CF CA fun size fm t => RetLots (ccL size (basesF fm t))) [] := by
  refine mkMet CC.cls me F sc_At_circuits (fun _ _ _ _ _ _ us hl => match us, hl with | [_], _ => rfl) (fun vs H Q E h => ?_) (fun cdv A outer s H vs Q E hr h => ?_)
  · obtain ⟨b, size, fm, t, rfl, _⟩ := h
    rfl
  · obtain ⟨b, size, fm, t, rfl, hA, ok, ht, q⟩ := h
    have hz := ok.s5
    have h64 := pow64 (n := size) (by omega)
    obtain ⟨a, dx, fs, bp, rs, bm, g1, g2, g3, g4, g5, g6, g7, g8, g9⟩ := hA
    have hbl : bm.length ≤ 64 := by
      rw [g8.1.length_eq]; unfold basesF; rw [List.length_map]
      exact Nat.le_trans near_len ok.len
    refine ⟨_, (pss_one (ps_ret (pe_c c_lots_from hr (by decide) rfl (pa_cons (pe_c c_circuit_masks hr (by decide) rfl (pa_cons (pe_fld (pe_fld (pv 0) rfl) rfl) (pa_cons (pe_fld (pv 0) rfl) pa_nil))) pa_nil)))), ?_⟩
    refine ret_callL0 (xs := nv (circF size bm)) (el_call (ea_cons (ev_size g9 C (ev_fld (ev_v 0) g1 CC.cls CC.a1 g2)) (ea_cons (ev_fld (ev_v 0) g1 CC.cls CC.a3 g3) ea_nil)) fun H2 e2 Q2 q2 E2 => ⟨size, bp, rs, bm, rfl, hz, e2 _ _ g6, g7.ex e2, fun b hb => bases_sz ok ht (g8.1.mem_iff.mp hb), hbl, q2⟩) fun d H3 hd e3 h3 => ⟨d, circF size bm, rfl, sq_of h3, ?_, fun m hm => ?_, fun L l1 l2 p rs H5 hp e5 h5 L5 => ?_⟩
    · unfold circF
      refine Nat.le_trans (List.length_filter_le _ _) ?_
      rw [List.length_range]; omega
    · have := List.mem_range.mp (List.mem_filter.mp hm).1
      omega
    · rw [cc_of hz g8.1 l1 l2] at L5
      exact q p rs H5 (fresh_back e3 hp) (e3.trans e5) h5 L5
theorem sc_At_lumps : FnScope ["self"] ["self"] (defScope (inClass (top 48) 12)) := ⟨rfl, rfl, rfl, by decide +kernel, rfl, by decide +kernel, by decide +kernel⟩
theorem m_lumps (C : FC K CF) (CC : AC K CA) (me : Meth K CA "lumps" f) (F : FunD K "lumps" "At.lumps" (defArgs (inClass (top 48) 12)) (defBody (inClass (top 48) 12)) (defScope (inClass (top 48) 12)) [] [] f fd) (B : Bi mg) (c_put_together : Cal P w K mg base 1 "put_together" (spLotsL fun size L => RetLotsU (putF size L)) []) (m_circuits : Met P w K mg base 4 CA "circuits" (spAtL CF CA fun size fm t => RetLots (ccL size (basesF fm t))) []) : Met P w K mg base 5 CA "lumps" (spAtL CF CA fun size fm t => RetLotsU (lumpsF size fm t)) [] := by
  refine mkMet CC.cls me F sc_At_lumps (fun _ _ _ _ _ _ us hl => match us, hl with | [_], _ => rfl) (fun vs H Q E h => ?_) (fun cdv A outer s H vs Q E hr h => ?_)
  · obtain ⟨b, size, fm, t, rfl, _⟩ := h
    rfl
  · obtain ⟨b, size, fm, t, rfl, hA, ok, ht, q⟩ := h
    have hz := ok.s5
    have h64 := pow64 (n := size) (by omega)
    obtain ⟨a, dx, fs, bp, rs, bm, g1, g2, g3, g4, g5, g6, g7, g8, g9⟩ := id hA
    refine ⟨_, (pss_one (ps_ret (pe_c c_put_together hr (by decide) rfl (pa_cons (pe_fld (pe_fld (pv 0) rfl) rfl) (pa_cons (pe_mt0 m_circuits hr (by decide) (pv 0)) pa_nil))))), ?_⟩
    refine ret_call2 (ev_size g9 C (ev_fld (ev_v 0) g1 CC.cls CC.a1 g2)) fun H1 e1 => ⟨.ref b, rfl, b, dx, fs, rfl, e1 _ _ g1, g5.2.2.2.2.2.1, b, size, fm, t, rfl, hA.ex e1, ok, ht, fun p rs2 H2 hp e2 h2 L2 => ⟨size, p, rs2, _, rfl, hz, h2, L2, fun l hl => ?_, fun r rs3 H3 hr e3 h3 L3 => q r rs3 H3 (fresh_back (e1.trans e2) hr) ((e1.trans e2).trans e3) h3 L3⟩⟩
    obtain ⟨m, hm, rfl⟩ := List.mem_map.mp hl
    have hml := (ord_ok size (by omega)).2.1 m (List.mem_filter.mp hm).1
    exact ⟨(lot_ok hml (by omega)).1.2.1, by rw [lot_len m (by omega)]; have := bits_size size (by omega) m hml; omega⟩
def coF (size : Nat) (fm : List Nat) (t : Nat) : List Nat := (List.range size).filter fun x => (basesF fm t).all fun b => b.testBit x
theorem sc_At_coloops : FnScope ["self", "x", "base"] ["self"] (defScope (inClass (top 48) 7)) := ⟨rfl, rfl, rfl, by decide +kernel, rfl, by decide +kernel, by decide +kernel⟩
theorem m_coloops (C : FC K CF) (CC : AC K CA) (me : Meth K CA "coloops" f) (F : FunD K "coloops" "At.coloops" (defArgs (inClass (top 48) 7)) (defBody (inClass (top 48) 7)) (defScope (inClass (top 48) 7)) [] [] f fd) (B : Bi mg) : Met P w K mg base 1 CA "coloops" (spAtL CF CA fun size fm t => RetU (nv (coF size fm t))) [] := by
  refine mkMet CC.cls me F sc_At_coloops (fun _ _ _ _ _ _ us hl => match us, hl with | [_], _ => rfl) (fun vs H Q E h => ?_) (fun cdv A outer s H vs Q E hr h => ?_)
  · obtain ⟨b, size, fm, t, rfl, _⟩ := h
    rfl
  · obtain ⟨b, size, fm, t, rfl, hA, ok, ht, q⟩ := h
    have hz := ok.s5
    obtain ⟨a, dx, fs, bp, rs, bm, g1, g2, g3, g4, g5, g6, g7, g8, g9⟩ := hA
    have hbl : bm.length ≤ 64 := by
      rw [g8.1.length_eq]; unfold basesF; rw [List.length_map]
      exact Nat.le_trans near_len ok.len
    refine ⟨_, (pss_one (ps_ret (pe_callTy call_tuple_of (by rfl) B.tuple (by decide +kernel) (pa_cons (pe_lc (own := [("x", 1)]) (g := gName 1) (by rfl) sc_At_coloops.nd (pi_range1 rfl B.range (pa_cons (pe_fld (pe_fld (pv 0) rfl) rfl) pa_nil)) (blkOk_by (own := [("x", 1)]) (N := ["self", "x", "base"]) (sc := defScope (inClass (top 48) 7)) (by decide +kernel)) (fun _ _ _ _ _ => (pg_name (i := 1) sc_At_coloops.nd rfl (by first | exact Or.inl rfl | exact Or.inr rfl))) (fun _ _ _ _ _ => (pts_one (pt_truthK (K := K) rfl (pe_callB (cr_allK (K := K) rfl rfl) (by rfl) B.all (by decide +kernel) (pa_cons (pe_lc (own := [("base", 2)]) (g := gName 2) (by rfl) sc_At_coloops.nd (pi_tupK (K := K) rfl (pe_fldK (K := K) rfl (pv 0) (by rfl))) (by exact blkOk_by (by kernel_rfl)) (fun _ _ _ _ _ => (pg_name (i := 2) sc_At_coloops.nd rfl (by first | exact Or.inl rfl | exact Or.inr rfl))) (fun _ _ _ _ _ => pts_nil) (fun _ _ _ _ _ => (pe_cmpR (op_in_seqK (K := K) rfl) (pv 1) (pv 2) rfl))) pa_nil)) (fun _ => rfl)))) (fun _ _ _ _ _ => (pv 1))) pa_nil)))), ?_⟩
    refine s_retU (xs := nv (coF size fm t)) (eu_tupOf ?_) fun r H3 hr3 e3 h3 => q r H3 hr3 e3 h3
    have inner : ∀ (x : Nat) H1, Ex H H1 → x < size → EvL (tLc (iTup K (tFld K (tVar 0) "_bases")) (gName 2) tYes (tOp (rIn K false) (tVar 1) (tVar 2)) [2]) [some (.ref b), some (.int (x : Nat)), none] H1 (bv (bm.map fun m => m.testBit x)) := fun x H1 e1 hx => by
      have el := el_lotsT (K := K) (te := tOp (rIn K false) (tVar 1) (tVar 2)) (tl := tFld K (tVar 0) "_bases") (j := 2) (vs := [2]) (σ := [some (.ref b), some (.int (x : Nat)), none]) (H := H1) (fun ns => .bl (decide (x ∈ ns))) (ev_fld (ev_v 0) (e1 _ _ g1) CC.cls CC.a3 g3) (st_of (e1 _ _ g6)) (g7.ex e1) (by rw [List.length_map]; omega) (fun _ => rfl) (fun r ns H2 e2 hr hns => ev_inLot (ev_v 1) (ev_v 2) hr)
      have e3 : (bm.map lotF).map (fun ns => V.bl (decide (x ∈ ns))) = bv (bm.map fun m => m.testBit x) := by
        unfold bv
        simp only [List.map_map]
        refine List.map_congr_left fun m _ => ?_
        show V.bl (decide (x ∈ lotF m)) = _
        rw [mem_lotF (by omega)]; rfl
      rw [e3] at el
      exact el
    have := el_rng (ta := tCons (tFld K (tFld K (tVar 0) "family") "size") tNil) (j := 1) (vs := [1]) (t := (fun σ H Q => tCB (rAll K) (tCons (tLc (iTup K (tFld K (tVar 0) "_bases")) (gName 2) tYes (tOp (rIn K false) (tVar 1) (tVar 2)) [2]) tNil) σ H fun x H' => ∃ k, TruV K x H' k ∧ Q k H')) (te := tVar 1) (σ := [some (.ref b), none, none]) (H := H) (n := size) (fun x => (basesF fm t).all fun b => b.testBit x) (fun x => V.int (x : Nat)) (ea_cons (ev_size g9 C (ev_fld (ev_v 0) g1 CC.cls CC.a1 g2)) ea_nil) (by omega) (fun _ => rfl) (fun x H1 e1 hx => by
      refine et_is (et_truB (ev_allL (inner x H1 e1 hx))) ?_
      rw [List.all_map, List.all_eq_not_any_not, List.all_eq_not_any_not]
      rw [any_perm g8.1]
      rfl) (fun x H1 e1 hx _ => ev_v 1)
    exact this
end
end W7
end
section
namespace W7
open PySem PySem.Spec PyProof.Rows L2 L3 Evl
open C8 (Cal pe_c Mak pe_mk Met pe_mt pe_mt0)
section
variable {K : PySem.W.Frag} {σ : L2.St} {H : Hp} {ta tb te tl : TE} {v : V} {tt : TT} {D : Ends} {tz : TS}
theorem ev_call2U {sp : Sp} {E : XK} {xs : List V} {x z : V} (ha : Ev ta σ H x) (h : EvU tb σ H xs) (hs : ∀ p H1, H1 p = some (.tup xs) → Ex H H1 → SpV sp [x, .ref p] H1 z) : Ev (tCall sp [] E (tCons ta (tCons tb tNil))) σ H z := fun H1 e Q q =>
  ha H1 e _ fun H2 e2 => h H2 (e.trans e2) _ fun p H3 hp e3 h3 => hs p H3 h3 ((e.trans e2).trans e3) H3 (Ex.refl _) Q (fun H4 e4 => q H4 ((e2.trans e3).trans e4)) E
theorem eu_call2U {sp : Sp} {E : XK} {xs ys : List V} {x : V} (ha : Ev ta σ H x) (h : EvU tb σ H xs) (hs : ∀ p H1, H1 p = some (.tup xs) → Ex H H1 → SpU sp [x, .ref p] H1 ys) : EvU (tCall sp [] E (tCons ta (tCons tb tNil))) σ H ys := fun H1 e Q q =>
  ha H1 e _ fun H2 e2 => h H2 (e.trans e2) _ fun p H3 hp e3 h3 => hs p H3 h3 ((e.trans e2).trans e3) H3 (Ex.refl _) Q (fun r H4 hr e4 h4 => q r H4 (fresh_back (e2.trans e3) hr) ((e2.trans e3).trans e4) h4) E
theorem q_set {i : Nat} {x : V} (h : Ev te σ H x) (k : ∀ H1, Ex H H1 → tz D (σ.set i (some x)) H1) : tSeq (tAsg te (gName i)) tz D σ H := q_asg h k
end
section
variable {P : Program} {w : World} {K : PySem.W.Frag} {mg : Str → Option Value} {base : Heap} {f : Addr} {fd : FuncData} {CF CA : Addr}
def spLawDepths (K : PySem.W.Frag) : Sp := fun vs H Q _ => ∃ (size : Nat) (p : Addr) (ms : List Nat), vs = [.int size, .ref p] ∧ size ≤ 5 ∧ SqL K H p (nv ms) ∧ ms.length ≤ 64 ∧ ms ≠ [] ∧ RetL (nv (depF size ms)) H Q
theorem sc_law_depths : FnScope ["_law_size", "_law_masks", "_law_lot_here", "_law_number"] ["_law_size", "_law_masks"] (defScope (top 81)) := ⟨rfl, rfl, rfl, by decide +kernel, rfl, by decide +kernel, by decide +kernel⟩
theorem c_law_depths (F : FnP K "_law_depths" (top 81) f fd) (g : mg "_law_depths" = some (.ref f)) (B : Bi mg) (c_law_bits : Cal P w K mg base 1 "_law_bits" spBits []) : Cal P w K mg base 2 "_law_depths" (spLawDepths K) [] := by
  refine mkCal F g sc_law_depths (fun _ _ _ _ _ _ us hl => match us, hl with | [_, _], _ => rfl) (fun vs H Q E h => ?_) (fun cdv A outer s H vs Q E hr h => ?_)
  · obtain ⟨size, p, ms, rfl, _⟩ := h
    rfl
  · obtain ⟨size, p, ms, rfl, hz, hp, hl, hne, q⟩ := h
    have h64 := pow64 (n := size) (by omega)
    refine ⟨_, (pss_one (ps_ret (pe_lc (own := [("_law_number", 3)]) (g := gName 3) (by rfl) sc_law_depths.nd (pi_range1 rfl B.range (pa_cons (pe_op on_shl (pe_nat 1 pe_int) (pv 0)) pa_nil)) (blkOk_by (own := [("_law_number", 3)]) (N := ["_law_size", "_law_masks", "_law_lot_here", "_law_number"]) (sc := defScope (top 81)) (by decide +kernel)) (fun _ _ _ _ _ => (pg_name (i := 3) sc_law_depths.nd rfl (by first | exact Or.inl rfl | exact Or.inr rfl))) (fun _ _ _ _ _ => pts_nil) (fun _ _ _ _ _ => (pe_callB (cr_minK (K := K) rfl rfl) (by rfl) B.min (by decide +kernel) (pa_cons (pe_lc (own := [("_law_lot_here", 2)]) (g := gName 2) (by rfl) sc_law_depths.nd (pi_listK (K := K) rfl (pv 1)) (by exact blkOk_by (by kernel_rfl)) (fun _ _ _ _ _ => (pg_name (i := 2) sc_law_depths.nd rfl (by first | exact Or.inl rfl | exact Or.inr rfl))) (fun _ _ _ _ _ => pts_nil) (fun _ _ _ _ _ => (pe_c c_law_bits hr (by decide) rfl (pa_cons (pe_op on_xor (pv 3) (pv 2)) pa_nil)))) pa_nil)))))), ?_⟩
    refine s_retL (xs := nv (depF size ms)) ?_ fun r H3 hr3 e3 h3 => q r H3 hr3 e3 h3
    have := el_rng (ta := tCons (tOp (rN (fun a b => a < 64 ∧ b < 64) fun a b => .int ((a <<< b : Nat) : Int)) (tC (.int ((1 : Nat) : Int))) (tVar 0)) tNil) (j := 3) (vs := [3]) (t := tYes) (te := tCB (rMin K) (tCons (tLc (iList K (tVar 1)) (gName 2) tYes (tCall spBits [] C8.E0 (tCons (tOp (rN0 fun a b => .int ((a ^^^ b : Nat) : Int)) (tVar 3) (tVar 2)) tNil)) [2]) tNil)) (σ := [some (.int (size : Nat)), some (.ref p), none, none]) (H := H) (n := 1 <<< size) (fun _ => true) (fun n => V.int (rkF ms n : Nat)) (ea_cons (ev_nc ev_c (ev_v 0) ⟨by decide, by omega⟩) ea_nil) (by omega) (fun _ => rfl) (fun _ _ _ _ => et_yes) (fun n H1 e1 hn _ => by
      have hne2 : ms.map (fun m => bits (m ^^^ n)) ≠ [] := by simpa using hne
      refine ev_minN (ns := ms.map fun m => bits (m ^^^ n)) ?_ (mn_ok hne2).1 (mn_ok hne2).2
      rw [nv_map]
      have h1 := el_nats (K := K) (tl := tVar 1) (te := tCall spBits [] C8.E0 (tCons (tOp (rN0 fun a b => .int ((a ^^^ b : Nat) : Int)) (tVar 3) (tVar 2)) tNil)) (t := tYes) (j := 2) (vs := [2]) (a := p) (ns := ms) (σ := [some (.int (size : Nat)), some (.ref p), none, some (.int (n : Nat))]) (H := H1) (fun _ => true) (fun m => .int (bits (m ^^^ n) : Nat)) (ev_v 1) (ex_l e1 hp) (by omega) (fun _ => rfl) (fun _ _ _ _ => et_yes) (fun m H2 e2 hm _ => ev_call (ea_cons (ev_n (ev_v 3) (ev_v 2)) ea_nil) fun H3 e3 Q3 q3 E3 => ⟨n ^^^ m, rfl, by rw [Nat.xor_comm m n] at q3; exact q3⟩)
      exact h1)
    rw [List.filter_eq_self.mpr (fun _ _ => rfl)] at this
    have e : nv (depF size ms) = (List.range (1 <<< size)).map fun n => V.int (rkF ms n : Nat) := by unfold nv depF; rw [List.map_map]; rfl
    rw [e]
    exact this

/-- some mask below i with a bond of this sort -/
def anyK (fm : List Nat) (b : Bool) (x y i : Nat) : Bool := (List.range i).any fun m => bondB fm m x y && (sameB m x y == b)
theorem anyK_succ {fm : List Nat} {b : Bool} {x y i : Nat} : anyK fm b x y (i + 1) = (anyK fm b x y i || (bondB fm i x y && (sameB i x y == b))) := by
  unfold anyK
  rw [List.range_succ, List.any_append]
  simp
theorem anyK_riv {size : Nat} {fm : List Nat} {x y : Nat} : anyK fm true x y (1 <<< size) = rivB size fm x y := by
  unfold anyK rivB
  simp
theorem anyK_mate {size : Nat} {fm : List Nat} {x y : Nat} : anyK fm false x y (1 <<< size) = mateB size fm x y := by
  unfold anyK mateB
  simp
theorem bond_perm {fm ms : List Nat} (h : ms.Perm fm) (m x y : Nat) : bondB ms m x y = bondB fm m x y := by
  unfold bondB
  simp only [h.mem_iff]
theorem ins_perm {size : Nat} {fm ms : List Nat} (h : ms.Perm fm) : insF size ms = insF size fm := by
  unfold insF
  refine List.map_congr_left fun n _ => ?_
  simp only [h.mem_iff]
def spLawBonds (K : PySem.W.Frag) : Sp := fun vs H Q _ => ∃ (size : Nat) (p : Addr) (ms fm : List Nat), vs = [.int size, .ref p] ∧ size ≤ 5 ∧ SqL K H p (nv ms) ∧ ms.Perm fm ∧ (∀ m ∈ ms, m < 1 <<< size) ∧ ∀ p rs H', H p = none → Ex H H' → H' p = some (.lst rs) → Tups H' rs (bondsL size fm size) → Q (.ref p) H'
theorem sc_law_bonds : FnScope ["_law_size", "_law_masks", "_law_row", "_law_found", "_law_x", "_law_y", "_law_rivals", "_law_mates", "_law_number"] ["_law_size", "_law_masks"] (defScope (top 82)) := ⟨rfl, rfl, rfl, by decide +kernel, rfl, by decide +kernel, by decide +kernel⟩
theorem c_law_bonds (F : FnP K "_law_bonds" (top 82) f fd) (g : mg "_law_bonds" = some (.ref f)) (B : Bi mg) (c_law_inside : Cal P w K mg base 1 "_law_inside" (spIns K) []) : Cal P w K mg base 2 "_law_bonds" (spLawBonds K) [] := by
  refine mkCal F g sc_law_bonds (fun _ _ _ _ _ _ us hl => match us, hl with | [_, _], _ => rfl) (fun vs H Q E h => ?_) (fun cdv A outer s H vs Q E hr h => ?_)
  · obtain ⟨size, p, ms, fm, rfl, _⟩ := h
    rfl
  · obtain ⟨size, p, ms, fm, rfl, hz, hp, hpm, hml, q⟩ := h
    have h64 := pow64 (n := size) (by omega)
    refine ⟨_, (pss_cons (ps_set (i := 2) sc_law_bonds.nd rfl (by first | exact Or.inl rfl | exact Or.inr rfl) (pe_c c_law_inside hr (by decide) rfl (pa_cons (pv 0) (pa_cons (pv 1) pa_nil)))) (pss_cons (ps_set (i := 3) sc_law_bonds.nd rfl (by first | exact Or.inl rfl | exact Or.inr rfl) (pe_lst pa_nil)) (pss_cons (ps_for PassesOwn.never rfl (pi_range1 rfl B.range (pa_cons (pv 0) pa_nil)) (pg_name (i := 4) sc_law_bonds.nd rfl (by first | exact Or.inl rfl | exact Or.inr rfl)) (pss_one (ps_for PassesOwn.never rfl (pi_range2 rfl B.range (pa_cons (pe_op on_add (pv 4) (pe_nat 1 pe_int)) (pa_cons (pv 0) pa_nil))) (pg_name (i := 5) sc_law_bonds.nd rfl (by first | exact Or.inl rfl | exact Or.inr rfl)) (pss_cons (ps_set (i := 6) sc_law_bonds.nd rfl (by first | exact Or.inl rfl | exact Or.inr rfl) pe_bl) (pss_cons (ps_set (i := 7) sc_law_bonds.nd rfl (by first | exact Or.inl rfl | exact Or.inr rfl) pe_bl) (pss_cons (ps_for PassesOwn.never rfl (pi_range1 rfl B.range (pa_cons (pe_op on_shl (pe_nat 1 pe_int) (pv 0)) pa_nil)) (pg_name (i := 8) sc_law_bonds.nd rfl (by first | exact Or.inl rfl | exact Or.inr rfl)) (pss_one (ps_if (PW.pt (pw_and (pt_not (pt_val (pe_ix (on_ix (K := K)) (pv 2) (pv 8) (fun _ _ => rfl)))) (pw_and (pt_val (pe_ix (on_ix (K := K)) (pv 2) (pe_op on_xor (pv 8) (pe_op on_shl (pe_nat 1 pe_int) (pv 4))) (fun _ _ => rfl))) (pw_and1 (pt_val (pe_ix (on_ix (K := K)) (pv 2) (pe_op on_xor (pv 8) (pe_op on_shl (pe_nat 1 pe_int) (pv 5))) (fun _ _ => rfl))))))) (pss_one (ps_if (pt_cmpR on_eq (pe_op on_and (pe_op on_shr (pv 8) (pv 4)) (pe_nat 1 pe_int)) (pe_op on_and (pe_op on_shr (pv 8) (pv 5)) (pe_nat 1 pe_int)) (nomark _)) (pss_one (ps_set (i := 6) sc_law_bonds.nd rfl (by first | exact Or.inl rfl | exact Or.inr rfl) pe_bl)) (pss_one (ps_set (i := 7) sc_law_bonds.nd rfl (by first | exact Or.inl rfl | exact Or.inr rfl) pe_bl)))) pss_nil))) (pss_one (ps_if (PW.pt (pw_or (pt_val (pv 6)) (pw_or1 (pt_val (pv 7))))) (pss_one (ps_expr (pe_bm PySem.F.plainAttrs_list PySem.F.slot_list_append PySem.F.type_list_append mt_append (pv 3) (pa_cons (pe_tup (pa_cons (pv 4) (pa_cons (pv 5) (pa_cons (pv 6) (pa_cons (pv 7) pa_nil))))) pa_nil)))) pss_nil)))))))) (pss_one (ps_ret (pv 3)))))), ?_⟩
    refine q_asgL (el_call (xs := bv (insF size fm)) (ea_cons (ev_v 0) (ea_cons (ev_v 1) ea_nil)) fun H2 e2 Q2 q2 E2 => ⟨size, p, ms, rfl, ex_l e2 hp, by omega, hml, by rw [ins_perm hpm]; exact q2⟩) fun r H1 hr1 e1 h1 => ?_
    refine q_asgL (el_lst ea_nil (by decide)) fun c H2 hc e2 h2 => ?_
    have hcH := fresh_back e1 hc
    refine q_forR1 (n := (size : Int)) (ea_cons (ev_v 0) ea_nil) (by omega) (fun i σ H' => Ex H1 H' ∧ ∃ rs v4 v5 v6 v7 v8, H' c = some (.lst rs) ∧ Tups H' rs (bondsL size fm i) ∧ σ = [some (.int size), some (.ref p), some (.ref r), some (.ref c), v4, v5, v6, v7, v8]) (fun H3 e3 => ⟨e2.trans e3, [], _, _, _, _, _, e3 _ _ h2, nil_tups, rfl⟩) ?_ ?_
    · rintro x σ H3 hx ⟨e3, rs, v4, v5, v6, v7, v8, h3, t3, rfl⟩
      have hxs : x < size := by omega
      refine s_forR2 (lo := ((x + 1 : Nat) : Int)) (n := (size : Int)) (ea_cons (ev_n (ev_v 4) ev_c) (ea_cons (ev_v 0) ea_nil)) (by omega) (fun i σ H' => Ex H1 H' ∧ ∃ rs v5 v6 v7 v8, H' c = some (.lst rs) ∧ Tups H' rs (bondsL size fm x ++ rowL size fm x i) ∧ σ = [some (.int size), some (.ref p), some (.ref r), some (.ref c), some (.int (x : Int)), v5, v6, v7, v8]) (fun H4 e4 => ⟨e3.trans e4, rs, _, _, _, _, e4 _ _ h3, by have := t3.ex e4; simpa [rowL] using this, rfl⟩) ?_ ?_
      · rintro k σ H4 hk ⟨e4, rs4, v5, v6, v7, v8, h4, t4, rfl⟩
        have ey : ((x + 1 : Nat) : Int) + (k : Int) = ((x + 1 + k : Nat) : Int) := by omega
        rw [ey]
        have hys : x + 1 + k < size := by omega
        generalize hyy : x + 1 + k = y at hys
        show tSeq _ _ _ [some (.int size), some (.ref p), some (.ref r), some (.ref c), some (.int (x : Int)), some (.int (y : Nat)), v6, v7, v8] H4
        refine q_set ev_c fun H5 e5 => ?_
        refine q_set ev_c fun H6 e6 => ?_
        have e46 := e4.trans (e5.trans e6)
        have h46 := e6 _ _ (e5 _ _ h4)
        have t46 := t4.ex (e5.trans e6)
        refine q_forR1 (n := ((1 <<< size : Nat) : Int)) (ea_cons (ev_nc ev_c (ev_v 0) ⟨by decide, by omega⟩) ea_nil) ⟨Int.natCast_nonneg _, Int.le_trans (Int.ofNat_le.mpr h64) (by decide)⟩ (fun i σ H' => Ex H1 H' ∧ H' c = some (.lst rs4) ∧ Tups H' rs4 (bondsL size fm x ++ rowL size fm x k) ∧ ∃ v8, σ = [some (.int size), some (.ref p), some (.ref r), some (.ref c), some (.int (x : Int)), some (.int (y : Nat)), some (.bl (anyK fm true x y i)), some (.bl (anyK fm false x y i)), v8]) (fun H7 e7 => ⟨e46.trans e7, e7 _ _ h46, t46.ex e7, _, rfl⟩) ?_ ?_
        · rintro m σ H7 hm ⟨e7, h7, t7, v8', rfl⟩
          have hms : m < 1 <<< size := by omega
          have hr7 := e7 _ _ h1
          refine s_when (b := bondB fm m x y) (et_and (et_not (et_B (ev_ix (sq_of hr7) (ev_v 2) (ev_v 8) (insF_get hms)))) fun _ => et_and (et_B (ev_ix (sq_of hr7) (ev_v 2) (ev_n (ev_v 8) (ev_nc ev_c (ev_v 4) ⟨by decide, by omega⟩)) (insF_get (xor_lt_sh hms (one_lt_sh hxs))))) fun _ => et_B (ev_ix (sq_of hr7) (ev_v 2) (ev_n (ev_v 8) (ev_nc ev_c (ev_v 5) ⟨by decide, by omega⟩)) (insF_get (xor_lt_sh hms (one_lt_sh hys))))) (fun hb H8 e8 => ?_) (fun hb H8 e8 => ⟨e7.trans e8, e8 _ _ h7, t7.ex e8, some (.int (m : Int)), ?_⟩)
          · refine s_if (b := sameB m x y) (et_test (ev_n (ev_n (ev_n (ev_v 8) (ev_v 4)) ev_c) (ev_n (ev_n (ev_v 8) (ev_v 5)) ev_c))) (fun hs H9 e9 => s_asg ev_c fun H10 e10 => ⟨e7.trans (e8.trans (e9.trans e10)), e10 _ _ (e9 _ _ (e8 _ _ h7)), t7.ex (e8.trans (e9.trans e10)), some (.int (m : Int)), ?_⟩) (fun hs H9 e9 => s_asg ev_c fun H10 e10 => ⟨e7.trans (e8.trans (e9.trans e10)), e10 _ _ (e9 _ _ (e8 _ _ h7)), t7.ex (e8.trans (e9.trans e10)), some (.int (m : Int)), ?_⟩)
            · have eA : anyK fm true x y (m + 1) = true := by rw [anyK_succ, hb, hs]; simp
              have eB : anyK fm false x y (m + 1) = anyK fm false x y m := by rw [anyK_succ, hb, hs]; simp
              rw [eA, eB]
              rfl
            · have eA : anyK fm true x y (m + 1) = anyK fm true x y m := by rw [anyK_succ, hb, hs]; simp
              have eB : anyK fm false x y (m + 1) = true := by rw [anyK_succ, hb, hs]; simp
              rw [eA, eB]
              rfl
          · have eA : anyK fm true x y (m + 1) = anyK fm true x y m := by rw [anyK_succ, hb]; simp
            have eB : anyK fm false x y (m + 1) = anyK fm false x y m := by rw [anyK_succ, hb]; simp
            rw [eA, eB]
            rfl
        · rintro σ H7 ⟨e7, h7, t7, v8', rfl⟩
          have e : (((1 <<< size : Nat) : Int)).toNat = 1 <<< size := Int.toNat_natCast _
          rw [e, anyK_riv, anyK_mate]
          subst hyy
          have lenb : rs4.length ≤ 30 := by
            have l1 := bondsL_len hz (fm := fm) (n := x) (by omega)
            have l2 := rowL_len (size := size) (fm := fm) (x := x) (k := k)
            rw [t4.1, List.length_append]
            omega
          refine s_when (b := rivB size fm x (x + 1 + k) || mateB size fm x (x + 1 + k)) (et_or (et_B (ev_v 6)) fun _ => et_B (ev_v 7)) (fun hb5 H8 e8 => ?_) (fun hb5 H8 e8 => ⟨e7.trans e8, rs4, _, _, _, _, e8 _ _ h7, ?_, rfl⟩)
          · refine s_appU (e8 _ _ h7) (ev_v 3) (eu_tup (ea_cons (ev_v 4) (ea_cons (ev_v 5) (ea_cons (ev_v 6) (ea_cons (ev_v 7) ea_nil)))) (by show 4 ≤ 100000; decide)) (by omega) fun b H9 hb9 e9 h9 => ?_
            refine ⟨Ex.mut (e7.trans (e8.trans e9)) hc, _, _, _, _, _, upd_same, ?_, rfl⟩
            have t9 := (t7.ex (e8.trans e9)).push h9
            rw [rowL_succ]
            have hr : rowB size fm x (x + 1 + k) = some [.int (x : Nat), .int (x + 1 + k : Nat), .bl (rivB size fm x (x + 1 + k)), .bl (mateB size fm x (x + 1 + k))] := by unfold rowB; rw [if_pos hb5]
            rw [hr, ← List.append_assoc]
            exact t9.upd (e9 _ _ (e8 _ _ h7))
          · rw [rowL_succ]
            have hr : rowB size fm x (x + 1 + k) = none := by unfold rowB; rw [if_neg (by rw [hb5]; decide)]
            rw [hr, List.append_nil]
            exact t7.ex e8
      · rintro σ H4 ⟨e4, rs4, v5, v6, v7, v8, h4, t4, rfl⟩
        have e : ((size : Int) - ((x + 1 : Nat) : Int)).toNat = size - (x + 1) := by omega
        rw [e, ← bondsL_succ] at t4
        exact ⟨e4, rs4, _, _, _, _, _, h4, t4, rfl⟩
    · rintro σ H3 ⟨e3, rs, v4, v5, v6, v7, v8, h3, t3, rfl⟩
      have e : ((size : Int)).toNat = size := by omega
      rw [e] at t3
      exact s_ret (ev_v 3) fun H4 e4 => q c rs H4 hcH (e1.trans (e3.trans e4)) (e4 _ _ h3) (t3.ex e4)
end
end W7
end
section
namespace W7
theorem bits_one : ∀ b : Nat, b < 32 → bits b = 1 → (List.range 5).any (fun y => decide (b = 1 <<< y)) = true := by decide +kernel
theorem sub_one : ∀ W : Nat, W < 32 → ∀ r : Nat, r < 32 → r &&& W = r → bits r + 1 = bits W → (List.range 5).any (fun z => W.testBit z && decide (r = W ^^^ (1 <<< z))) = true := by decide +kernel
theorem sub_strict : ∀ W : Nat, W < 32 → ∀ r : Nat, r < 32 → r &&& W = r → r ≠ W → bits r + 1 ≤ bits W := by decide +kernel
theorem less_one : ∀ W : Nat, W < 32 → ∀ M : Nat, M < 32 → M &&& W = M → ∀ z : Nat, z < 5 → M.testBit z = true → bits ((W ^^^ (1 <<< z)) &&& M) + 1 = bits M := by decide +kernel
theorem or_more : ∀ N : Nat, N < 32 → ∀ x : Nat, x < 5 → N.testBit x = false → bits (N ||| (1 <<< x)) = bits N + 1 ∧ N ||| (1 <<< x) < 32 := by decide +kernel
theorem one_and : ∀ N : Nat, N < 32 → ∀ x : Nat, x < 5 → bits ((1 <<< x) &&& (N ||| (1 <<< x))) = 1 ∧ (N.testBit x = false → bits ((1 <<< x) &&& N) = 0) ∧ bits (1 <<< x) = 1 := by decide +kernel
theorem sub_of_tb {a b : Nat} (h : ∀ j, a.testBit j = true → b.testBit j = true) : a &&& b = a := by
  apply Nat.eq_of_testBit_eq
  intro j
  rw [Nat.testBit_and]
  cases ha : a.testBit j with
  | true => rw [h j ha]; rfl
  | false => rfl
/-- the lots that agree with m outside W -/
def agrF (fm : List Nat) (m W : Nat) : List Nat := fm.filter fun n => decide ((n ^^^ m) &&& W = n ^^^ m)
theorem agr_mem {fm : List Nat} {m W n : Nat} : n ∈ agrF fm m W ↔ n ∈ fm ∧ (n ^^^ m) &&& W = n ^^^ m := by
  unfold agrF
  rw [List.mem_filter, decide_eq_true_eq]
theorem agr_tb {m W n : Nat} : (n ^^^ m) &&& W = n ^^^ m ↔ ∀ j, W.testBit j = false → n.testBit j = m.testBit j := by
  constructor
  · intro h j hj
    have h3 : (n ^^^ m).testBit j = false := by
      rw [← h, Nat.testBit_and, hj, Bool.and_false]
    rw [Nat.testBit_xor] at h3
    revert h3
    cases n.testBit j <;> cases m.testBit j <;> decide
  · intro h
    refine sub_of_tb fun j hj => ?_
    cases hw : W.testBit j with
    | true => rfl
    | false =>
      rw [Nat.testBit_xor, h j hw] at hj
      simp at hj
theorem agr_ex {fm : List Nat} {m W : Nat} (h : EX (· ∈ fm)) : EX (· ∈ agrF fm m W) := by
  intro a g ha hg x hx
  obtain ⟨a1, a2⟩ := agr_mem.mp ha
  obtain ⟨g1, g2⟩ := agr_mem.mp hg
  have ta := agr_tb.mp a2
  have tg := agr_tb.mp g2
  have inW : ∀ j, (a ^^^ g).testBit j = true → W.testBit j = true := fun j hj => by
    cases hw : W.testBit j with
    | true => rfl
    | false =>
      rw [Nat.testBit_xor, ta j hw, tg j hw] at hj
      simp at hj
  have keep : ∀ n j, (∀ k, W.testBit k = false → n.testBit k = m.testBit k) → W.testBit j = true → ∀ k, W.testBit k = false → (n ^^^ (1 <<< j)).testBit k = m.testBit k := fun n j hn hj k hk => by
    rw [tog_ne (fun e => by rw [e, hk] at hj; cases hj)]
    exact hn k hk
  rcases h a g a1 g1 x hx with h1 | ⟨y, y1, y2, y3⟩
  · exact .inl (agr_mem.mpr ⟨h1, agr_tb.mpr (keep a x ta (inW x hx))⟩)
  · exact .inr ⟨y, y1, y2, agr_mem.mpr ⟨y3, agr_tb.mpr (keep _ y (keep a x ta (inW x hx)) (inW y y2))⟩⟩
theorem common_ok {size : Nat} {fm : List Nat} (ok : FamOk size fm) (hex : EX (· ∈ fm)) {one two x : Nat} (h1 : one ∈ fm) (h2 : two ∈ fm) (hx : (one ^^^ two).testBit x = true) (n1 : one ^^^ (1 <<< x) ∉ fm) (n2 : two ^^^ (1 <<< x) ∉ fm) :
    ∃ y, (one ^^^ two).testBit y = true ∧ y ≠ x ∧ (one ^^^ (1 <<< x)) ^^^ (1 <<< y) ∈ fm ∧ (two ^^^ (1 <<< x)) ^^^ (1 <<< y) ∈ fm := by
  have hz := ok.s5
  have hl1 := ok.lt one h1
  have hl2 := ok.lt two h2
  have hW : one ^^^ two < 1 <<< size := xor_lt_sh hl1 hl2
  have hxs : x < size := bit_sz hW hx
  have hW32 := sh32 hz hW
  generalize hWW : one ^^^ two = W at hx hW hW32
  have htwo : two = one ^^^ W := by rw [← hWW, ← Nat.xor_assoc, Nat.xor_self, Nat.zero_xor]
  obtain ⟨fm', efm⟩ : ∃ fm', fm' = agrF fm one W := ⟨_, rfl⟩
  have mem : ∀ n, n ∈ fm' ↔ n ∈ fm ∧ ∀ j, W.testBit j = false → n.testBit j = one.testBit j := fun n => by rw [efm, agr_mem, agr_tb]
  have m1 : one ∈ fm' := (mem one).mpr ⟨h1, fun _ _ => rfl⟩
  have m2 : two ∈ fm' := (mem two).mpr ⟨h2, fun j hj => by rw [htwo, Nat.testBit_xor, hj]; simp⟩
  have ok' : FamOk size fm' := ⟨ok.s1, hz, List.ne_nil_of_mem m1, fun m hm => ok.lt m ((mem m).mp hm).1, by rw [efm]; exact Nat.le_trans (List.length_filter_le _ _) ok.len⟩
  have ht : one ^^^ (1 <<< x) < 1 <<< size := tog_sh hl1 hxs
  obtain ⟨t, et⟩ : ∃ t, t = one ^^^ (1 <<< x) := ⟨_, rfl⟩
  rw [← et] at ht
  have G : Gat size fm' t := ⟨ok', by rw [efm]; exact agr_ex hex, ht⟩
  -- members seen from t lie in W
  have sub : ∀ c, (c ^^^ t) ∈ fm' → c &&& W = c := fun c hc => by
    refine sub_of_tb fun j hj => ?_
    cases hw : W.testBit j with
    | true => rfl
    | false =>
      have := ((mem _).mp hc).2 j hw
      have hxj : x ≠ j := fun e => by rw [e, hw] at hx; cases hx
      rw [Nat.testBit_xor, hj, et, tog_ne hxj] at this
      cases h : one.testBit j <;> simp [h] at this
  have lt5 : x < 5 := by omega
  have c32 : ∀ c, (c ^^^ t) ∈ fm' → c < 32 := fun c hc => sh32 hz (G.lt hc)
  have no0 : ∀ c, (c ^^^ t) ∈ fm' → c ≠ 0 := fun c hc e => by
    rw [e, Nat.zero_xor, et] at hc
    exact n1 ((mem _).mp hc).1
  have two_t : W ^^^ t = two ^^^ (1 <<< x) := by rw [et, htwo, ← Nat.xor_assoc, Nat.xor_comm W one]
  have noW : ∀ c, (c ^^^ t) ∈ fm' → c ≠ W := fun c hc e => by
    rw [e, two_t] at hc
    exact n2 ((mem _).mp hc).1
  have x_t : (1 <<< x) ^^^ t = one := by rw [et, Nat.xor_comm one, ← Nat.xor_assoc, Nat.xor_self, Nat.zero_xor]
  have pos : ∀ c, c < 32 → c ≠ 0 → 1 ≤ bits c := fun c hc h => by
    rcases Nat.eq_zero_or_pos (bits c) with e | e
    · exact absurd (bits_zero c hc e) h
    · exact e
  have hxb : (1 <<< x) ∈ basesF fm' t := bases_mem.mpr ⟨by rw [x_t]; exact m1, fun c hc => by rw [(one_and 0 (by decide) x lt5).2.2]; exact pos c (c32 c hc) (no0 c hc)⟩
  have Wx_t : (W ^^^ (1 <<< x)) ^^^ t = two := by
    rw [Nat.xor_assoc, x_t, htwo, Nat.xor_comm]
  have hWx := tog_sh hW hxs
  have bW := bit_off W hW32 x lt5 hx
  have hrow : (W ^^^ (1 <<< x)) ∈ rowsF fm' t := rows_mem.mpr ⟨by rw [Wx_t]; exact m2, fun c hc => by
    have := sub_strict W hW32 c (c32 c hc) (sub c hc) (noW c hc)
    omega⟩
  -- the things of the other side
  have hlow : lowF size fm' (two ^^^ (1 <<< x)) < 1 <<< size := by
    rw [Nat.one_shiftLeft size]
    refine Nat.lt_pow_two_of_testBit _ fun i hi => ?_
    rw [low_tb]
    have : ¬ i < size := by omega
    simp [this]
  obtain ⟨N, eN⟩ : ∃ N, N = lowF size fm' (two ^^^ (1 <<< x)) ^^^ (1 <<< x) := ⟨_, rfl⟩
  have hN : N < 1 <<< size := by rw [eN]; exact tog_sh hlow hxs
  have hN32 := sh32 hz hN
  have Nx : N.testBit x = false := by
    rw [eN, tog_eq, low_tb]
    have : (two ^^^ (1 <<< x)) ^^^ (1 <<< x) = two := by rw [Nat.xor_assoc, Nat.xor_self, Nat.xor_zero]
    rw [this]
    simp [hxs, m2]
  have Ny : ∀ y, y ≠ x → (N.testBit y = true ↔ y < size ∧ (two ^^^ (1 <<< x)) ^^^ (1 <<< y) ∈ fm') := fun y hy => by
    rw [eN, tog_ne (fun e => hy e.symm), low_tb]
    simp
  have inW : ∀ y, y ≠ x → (two ^^^ (1 <<< x)) ^^^ (1 <<< y) ∈ fm' → W.testBit y = true := fun y hy hm => by
    cases hw : W.testBit y with
    | true => rfl
    | false =>
      have := ((mem _).mp hm).2 y hw
      rw [tog_eq, tog_ne (fun e => hy e.symm), htwo, Nat.testBit_xor, hw] at this
      cases h : one.testBit y <;> simp [h] at this
  have NW : N &&& W = N := sub_of_tb fun j hj => by
    have hjx : j ≠ x := fun e => by rw [e, Nx] at hj; cases hj
    exact inW j hjx ((Ny j hjx).mp hj).2
  obtain ⟨mo1, mo2⟩ := or_more N hN32 x lt5 Nx
  have MW : (N ||| (1 <<< x)) &&& W = N ||| (1 <<< x) := sub_of_tb fun j hj => by
    rw [Nat.testBit_or, tb_sh, Bool.or_eq_true_iff, decide_eq_true_eq] at hj
    rcases hj with hj | hj
    · exact sub_tb NW hj
    · rw [← hj]; exact hx
  have step := (G.step hN hxs).2.2
  obtain ⟨⟨b, hb, eb⟩, _⟩ := rk_ok ok'.ne (t := t) N
  obtain ⟨_, rk2⟩ := rk_ok ok'.ne (t := t) (N ||| (1 <<< x))
  obtain ⟨_, fk1⟩ := fk_ok ok'.ne (t := t) N
  obtain ⟨⟨r, hr, er⟩, _⟩ := fk_ok ok'.ne (t := t) (N ||| (1 <<< x))
  have s1 := rk2 _ hxb
  rw [(one_and N hN32 x lt5).1] at s1
  have s2 := fk1 _ hrow
  have hsub : (W ^^^ (1 <<< x)) &&& N = N := by
    rw [Nat.and_comm]
    refine sub_of_tb fun j hj => ?_
    have hjx : x ≠ j := fun e => by rw [← e, Nx] at hj; cases hj
    rw [tog_ne hjx]
    exact sub_tb NW hj
  rw [hsub] at s2
  -- the farthest lots have no more of it
  have s3 : fkOf fm' t (N ||| (1 <<< x)) ≤ bits N := by
    rw [← er]
    obtain ⟨r1, r2⟩ := rows_mem.mp hr
    have r3 := r2 (W ^^^ (1 <<< x)) (by rw [Wx_t]; exact m2)
    have r4 := sub_strict W hW32 r (c32 r r1) (sub r r1) (noW r r1)
    have r5 := sub_one W hW32 r (c32 r r1) (sub r r1) (by omega)
    rw [List.any_eq_true] at r5
    obtain ⟨z, hz5, hzz⟩ := r5
    obtain ⟨z1, z2⟩ := Bool.and_eq_true_iff.mp hzz
    have z2 := of_decide_eq_true z2
    have hMz : (N ||| (1 <<< x)).testBit z = true := by
      rw [Nat.testBit_or, tb_sh]
      by_cases e : x = z
      · simp [e]
      · have : N.testBit z = true := (Ny z (fun h => e h.symm)).mpr ⟨bit_sz hW z1, by
          have e3 : r ^^^ t = (two ^^^ (1 <<< x)) ^^^ (1 <<< z) := by rw [z2, Nat.xor_assoc, Nat.xor_comm (1 <<< z) t, ← Nat.xor_assoc, two_t]
          rw [← e3]; exact r1⟩
        simp [this]
    have := less_one W hW32 _ mo2 MW z (List.mem_range.mp hz5) hMz
    rw [z2]
    omega
  -- so some base meets N
  have s4 : 1 ≤ bits (b &&& N) := by rw [eb]; omega
  obtain ⟨b1, b2⟩ := bases_mem.mp hb
  have b3 := b2 (1 <<< x) (by rw [x_t]; exact m1)
  rw [(one_and 0 (by decide) x lt5).2.2] at b3
  have b4 := pos b (c32 b b1) (no0 b b1)
  have b5 := bits_one b (c32 b b1) (by omega)
  rw [List.any_eq_true] at b5
  obtain ⟨y, hy5, hy⟩ := b5
  have hy := of_decide_eq_true hy
  have Nyt : N.testBit y = true := by
    cases h : N.testBit y with
    | true => rfl
    | false =>
      rw [hy, (one_and N hN32 y (List.mem_range.mp hy5)).2.1 h] at s4
      omega
  have hyx : y ≠ x := fun e => by rw [e, Nx] at Nyt; cases Nyt
  have hmy := ((Ny y hyx).mp Nyt).2
  refine ⟨y, sub_tb NW Nyt, hyx, ?_, ((mem _).mp hmy).1⟩
  rw [hy, et, Nat.xor_comm] at b1
  exact ((mem _).mp b1).1
end W7
end
section
namespace W7
/-- the members of L that the code names -/
def codeM (c : Nat) : List Nat → Nat → List Nat
  | [], _ => []
  | m :: ms, k => if c.testBit k then m :: codeM c ms (k + 1) else codeM c ms (k + 1)
def rankL (size r : Nat) : List Nat := (List.range (1 <<< size)).filter fun m => decide (bits m = r)
def exchB (B : List Nat) : Bool := B.all fun b => B.all fun c => (List.range 5).all fun x => !(b.testBit x && !c.testBit x) || (List.range 5).any fun y => c.testBit y && (!b.testBit y && decide ((b ^^^ (1 <<< x)) ^^^ (1 <<< y) ∈ B))
def relB (B : List Nat) (x y : Nat) : Bool := B.any fun b => b.testBit x && (!b.testBit y && decide ((b ^^^ (1 <<< x)) ^^^ (1 <<< y) ∈ B))
def lumB (size : Nat) (B : List Nat) : Bool :=
  match putF size (ccL size B) with
  | Lp => Lp.flatten.isPerm (List.range size) && (Lp.all (fun l => l.all fun x => l.all fun y => decide (x = y) || relB B x y) && (List.range size).all fun x => (List.range size).all fun y => decide (x = y) || (!relB B x y || Lp.any fun l => decide (x ∈ l) && decide (y ∈ l)))
def chkM (size r c : Nat) : Bool := match codeM c (rankL size r) 0 with
  | B => B.isEmpty || (!exchB B || lumB size B)
theorem ck_1_0_0 : ∀ i : Nat, i < 2 → chkM 1 0 (0 + i) = true := by decide +kernel
theorem ca_1_0 : ∀ c : Nat, c < 2 → chkM 1 0 c = true := fun c hc => by
  have h := ck_1_0_0 (c - 0) (by omega)
  have e : 0 + (c - 0) = c := by omega
  rwa [e] at h
theorem ck_1_1_0 : ∀ i : Nat, i < 2 → chkM 1 1 (0 + i) = true := by decide +kernel
theorem ca_1_1 : ∀ c : Nat, c < 2 → chkM 1 1 c = true := fun c hc => by
  have h := ck_1_1_0 (c - 0) (by omega)
  have e : 0 + (c - 0) = c := by omega
  rwa [e] at h
theorem ck_2_0_0 : ∀ i : Nat, i < 2 → chkM 2 0 (0 + i) = true := by decide +kernel
theorem ca_2_0 : ∀ c : Nat, c < 2 → chkM 2 0 c = true := fun c hc => by
  have h := ck_2_0_0 (c - 0) (by omega)
  have e : 0 + (c - 0) = c := by omega
  rwa [e] at h
theorem ck_2_1_0 : ∀ i : Nat, i < 4 → chkM 2 1 (0 + i) = true := by decide +kernel
theorem ca_2_1 : ∀ c : Nat, c < 4 → chkM 2 1 c = true := fun c hc => by
  have h := ck_2_1_0 (c - 0) (by omega)
  have e : 0 + (c - 0) = c := by omega
  rwa [e] at h
theorem ck_2_2_0 : ∀ i : Nat, i < 2 → chkM 2 2 (0 + i) = true := by decide +kernel
theorem ca_2_2 : ∀ c : Nat, c < 2 → chkM 2 2 c = true := fun c hc => by
  have h := ck_2_2_0 (c - 0) (by omega)
  have e : 0 + (c - 0) = c := by omega
  rwa [e] at h
theorem ck_3_0_0 : ∀ i : Nat, i < 2 → chkM 3 0 (0 + i) = true := by decide +kernel
theorem ca_3_0 : ∀ c : Nat, c < 2 → chkM 3 0 c = true := fun c hc => by
  have h := ck_3_0_0 (c - 0) (by omega)
  have e : 0 + (c - 0) = c := by omega
  rwa [e] at h
theorem ck_3_1_0 : ∀ i : Nat, i < 8 → chkM 3 1 (0 + i) = true := by decide +kernel
theorem ca_3_1 : ∀ c : Nat, c < 8 → chkM 3 1 c = true := fun c hc => by
  have h := ck_3_1_0 (c - 0) (by omega)
  have e : 0 + (c - 0) = c := by omega
  rwa [e] at h
theorem ck_3_2_0 : ∀ i : Nat, i < 8 → chkM 3 2 (0 + i) = true := by decide +kernel
theorem ca_3_2 : ∀ c : Nat, c < 8 → chkM 3 2 c = true := fun c hc => by
  have h := ck_3_2_0 (c - 0) (by omega)
  have e : 0 + (c - 0) = c := by omega
  rwa [e] at h
theorem ck_3_3_0 : ∀ i : Nat, i < 2 → chkM 3 3 (0 + i) = true := by decide +kernel
theorem ca_3_3 : ∀ c : Nat, c < 2 → chkM 3 3 c = true := fun c hc => by
  have h := ck_3_3_0 (c - 0) (by omega)
  have e : 0 + (c - 0) = c := by omega
  rwa [e] at h
theorem ck_4_0_0 : ∀ i : Nat, i < 2 → chkM 4 0 (0 + i) = true := by decide +kernel
theorem ca_4_0 : ∀ c : Nat, c < 2 → chkM 4 0 c = true := fun c hc => by
  have h := ck_4_0_0 (c - 0) (by omega)
  have e : 0 + (c - 0) = c := by omega
  rwa [e] at h
theorem ck_4_1_0 : ∀ i : Nat, i < 16 → chkM 4 1 (0 + i) = true := by decide +kernel
theorem ca_4_1 : ∀ c : Nat, c < 16 → chkM 4 1 c = true := fun c hc => by
  have h := ck_4_1_0 (c - 0) (by omega)
  have e : 0 + (c - 0) = c := by omega
  rwa [e] at h
theorem ck_4_2_0 : ∀ i : Nat, i < 64 → chkM 4 2 (0 + i) = true := by decide +kernel
theorem ca_4_2 : ∀ c : Nat, c < 64 → chkM 4 2 c = true := fun c hc => by
  have h := ck_4_2_0 (c - 0) (by omega)
  have e : 0 + (c - 0) = c := by omega
  rwa [e] at h
theorem ck_4_3_0 : ∀ i : Nat, i < 16 → chkM 4 3 (0 + i) = true := by decide +kernel
theorem ca_4_3 : ∀ c : Nat, c < 16 → chkM 4 3 c = true := fun c hc => by
  have h := ck_4_3_0 (c - 0) (by omega)
  have e : 0 + (c - 0) = c := by omega
  rwa [e] at h
theorem ck_4_4_0 : ∀ i : Nat, i < 2 → chkM 4 4 (0 + i) = true := by decide +kernel
theorem ca_4_4 : ∀ c : Nat, c < 2 → chkM 4 4 c = true := fun c hc => by
  have h := ck_4_4_0 (c - 0) (by omega)
  have e : 0 + (c - 0) = c := by omega
  rwa [e] at h
theorem ck_5_0_0 : ∀ i : Nat, i < 2 → chkM 5 0 (0 + i) = true := by decide +kernel
theorem ca_5_0 : ∀ c : Nat, c < 2 → chkM 5 0 c = true := fun c hc => by
  have h := ck_5_0_0 (c - 0) (by omega)
  have e : 0 + (c - 0) = c := by omega
  rwa [e] at h
theorem ck_5_1_0 : ∀ i : Nat, i < 32 → chkM 5 1 (0 + i) = true := by decide +kernel
theorem ca_5_1 : ∀ c : Nat, c < 32 → chkM 5 1 c = true := fun c hc => by
  have h := ck_5_1_0 (c - 0) (by omega)
  have e : 0 + (c - 0) = c := by omega
  rwa [e] at h
theorem ck_5_2_0 : ∀ i : Nat, i < 128 → chkM 5 2 (0 + i) = true := by decide +kernel
theorem ck_5_2_128 : ∀ i : Nat, i < 128 → chkM 5 2 (128 + i) = true := by decide +kernel
theorem ck_5_2_256 : ∀ i : Nat, i < 128 → chkM 5 2 (256 + i) = true := by decide +kernel
theorem ck_5_2_384 : ∀ i : Nat, i < 128 → chkM 5 2 (384 + i) = true := by decide +kernel
theorem ck_5_2_512 : ∀ i : Nat, i < 128 → chkM 5 2 (512 + i) = true := by decide +kernel
theorem ck_5_2_640 : ∀ i : Nat, i < 128 → chkM 5 2 (640 + i) = true := by decide +kernel
theorem ck_5_2_768 : ∀ i : Nat, i < 128 → chkM 5 2 (768 + i) = true := by decide +kernel
theorem ck_5_2_896 : ∀ i : Nat, i < 128 → chkM 5 2 (896 + i) = true := by decide +kernel
theorem ca_5_2 : ∀ c : Nat, c < 1024 → chkM 5 2 c = true := fun c hc => by
  by_cases h0 : c < 128
  · have h := ck_5_2_0 (c - 0) (by omega)
    have e : 0 + (c - 0) = c := by omega
    rwa [e] at h
  by_cases h128 : c < 256
  · have h := ck_5_2_128 (c - 128) (by omega)
    have e : 128 + (c - 128) = c := by omega
    rwa [e] at h
  by_cases h256 : c < 384
  · have h := ck_5_2_256 (c - 256) (by omega)
    have e : 256 + (c - 256) = c := by omega
    rwa [e] at h
  by_cases h384 : c < 512
  · have h := ck_5_2_384 (c - 384) (by omega)
    have e : 384 + (c - 384) = c := by omega
    rwa [e] at h
  by_cases h512 : c < 640
  · have h := ck_5_2_512 (c - 512) (by omega)
    have e : 512 + (c - 512) = c := by omega
    rwa [e] at h
  by_cases h640 : c < 768
  · have h := ck_5_2_640 (c - 640) (by omega)
    have e : 640 + (c - 640) = c := by omega
    rwa [e] at h
  by_cases h768 : c < 896
  · have h := ck_5_2_768 (c - 768) (by omega)
    have e : 768 + (c - 768) = c := by omega
    rwa [e] at h
  have h := ck_5_2_896 (c - 896) (by omega)
  have e : 896 + (c - 896) = c := by omega
  rwa [e] at h
theorem ck_5_3_0 : ∀ i : Nat, i < 128 → chkM 5 3 (0 + i) = true := by decide +kernel
theorem ck_5_3_128 : ∀ i : Nat, i < 128 → chkM 5 3 (128 + i) = true := by decide +kernel
theorem ck_5_3_256 : ∀ i : Nat, i < 128 → chkM 5 3 (256 + i) = true := by decide +kernel
theorem ck_5_3_384 : ∀ i : Nat, i < 128 → chkM 5 3 (384 + i) = true := by decide +kernel
theorem ck_5_3_512 : ∀ i : Nat, i < 128 → chkM 5 3 (512 + i) = true := by decide +kernel
theorem ck_5_3_640 : ∀ i : Nat, i < 128 → chkM 5 3 (640 + i) = true := by decide +kernel
theorem ck_5_3_768 : ∀ i : Nat, i < 128 → chkM 5 3 (768 + i) = true := by decide +kernel
theorem ck_5_3_896 : ∀ i : Nat, i < 128 → chkM 5 3 (896 + i) = true := by decide +kernel
theorem ca_5_3 : ∀ c : Nat, c < 1024 → chkM 5 3 c = true := fun c hc => by
  by_cases h0 : c < 128
  · have h := ck_5_3_0 (c - 0) (by omega)
    have e : 0 + (c - 0) = c := by omega
    rwa [e] at h
  by_cases h128 : c < 256
  · have h := ck_5_3_128 (c - 128) (by omega)
    have e : 128 + (c - 128) = c := by omega
    rwa [e] at h
  by_cases h256 : c < 384
  · have h := ck_5_3_256 (c - 256) (by omega)
    have e : 256 + (c - 256) = c := by omega
    rwa [e] at h
  by_cases h384 : c < 512
  · have h := ck_5_3_384 (c - 384) (by omega)
    have e : 384 + (c - 384) = c := by omega
    rwa [e] at h
  by_cases h512 : c < 640
  · have h := ck_5_3_512 (c - 512) (by omega)
    have e : 512 + (c - 512) = c := by omega
    rwa [e] at h
  by_cases h640 : c < 768
  · have h := ck_5_3_640 (c - 640) (by omega)
    have e : 640 + (c - 640) = c := by omega
    rwa [e] at h
  by_cases h768 : c < 896
  · have h := ck_5_3_768 (c - 768) (by omega)
    have e : 768 + (c - 768) = c := by omega
    rwa [e] at h
  have h := ck_5_3_896 (c - 896) (by omega)
  have e : 896 + (c - 896) = c := by omega
  rwa [e] at h
theorem ck_5_4_0 : ∀ i : Nat, i < 32 → chkM 5 4 (0 + i) = true := by decide +kernel
theorem ca_5_4 : ∀ c : Nat, c < 32 → chkM 5 4 c = true := fun c hc => by
  have h := ck_5_4_0 (c - 0) (by omega)
  have e : 0 + (c - 0) = c := by omega
  rwa [e] at h
theorem ck_5_5_0 : ∀ i : Nat, i < 2 → chkM 5 5 (0 + i) = true := by decide +kernel
theorem ca_5_5 : ∀ c : Nat, c < 2 → chkM 5 5 c = true := fun c hc => by
  have h := ck_5_5_0 (c - 0) (by omega)
  have e : 0 + (c - 0) = c := by omega
  rwa [e] at h
theorem chk_all (size : Nat) (h1 : 1 ≤ size) (h5 : size ≤ 5) (r : Nat) (hr : r ≤ size) (c : Nat) (hc : c < 2 ^ (rankL size r).length) : chkM size r c = true := by
  match size, r, h1, h5, hr, hc with
  | 1, 0, _, _, _, hc => exact ca_1_0 c (Nat.lt_of_lt_of_le hc (by decide +kernel))
  | 1, 1, _, _, _, hc => exact ca_1_1 c (Nat.lt_of_lt_of_le hc (by decide +kernel))
  | 2, 0, _, _, _, hc => exact ca_2_0 c (Nat.lt_of_lt_of_le hc (by decide +kernel))
  | 2, 1, _, _, _, hc => exact ca_2_1 c (Nat.lt_of_lt_of_le hc (by decide +kernel))
  | 2, 2, _, _, _, hc => exact ca_2_2 c (Nat.lt_of_lt_of_le hc (by decide +kernel))
  | 3, 0, _, _, _, hc => exact ca_3_0 c (Nat.lt_of_lt_of_le hc (by decide +kernel))
  | 3, 1, _, _, _, hc => exact ca_3_1 c (Nat.lt_of_lt_of_le hc (by decide +kernel))
  | 3, 2, _, _, _, hc => exact ca_3_2 c (Nat.lt_of_lt_of_le hc (by decide +kernel))
  | 3, 3, _, _, _, hc => exact ca_3_3 c (Nat.lt_of_lt_of_le hc (by decide +kernel))
  | 4, 0, _, _, _, hc => exact ca_4_0 c (Nat.lt_of_lt_of_le hc (by decide +kernel))
  | 4, 1, _, _, _, hc => exact ca_4_1 c (Nat.lt_of_lt_of_le hc (by decide +kernel))
  | 4, 2, _, _, _, hc => exact ca_4_2 c (Nat.lt_of_lt_of_le hc (by decide +kernel))
  | 4, 3, _, _, _, hc => exact ca_4_3 c (Nat.lt_of_lt_of_le hc (by decide +kernel))
  | 4, 4, _, _, _, hc => exact ca_4_4 c (Nat.lt_of_lt_of_le hc (by decide +kernel))
  | 5, 0, _, _, _, hc => exact ca_5_0 c (Nat.lt_of_lt_of_le hc (by decide +kernel))
  | 5, 1, _, _, _, hc => exact ca_5_1 c (Nat.lt_of_lt_of_le hc (by decide +kernel))
  | 5, 2, _, _, _, hc => exact ca_5_2 c (Nat.lt_of_lt_of_le hc (by decide +kernel))
  | 5, 3, _, _, _, hc => exact ca_5_3 c (Nat.lt_of_lt_of_le hc (by decide +kernel))
  | 5, 4, _, _, _, hc => exact ca_5_4 c (Nat.lt_of_lt_of_le hc (by decide +kernel))
  | 5, 5, _, _, _, hc => exact ca_5_5 c (Nat.lt_of_lt_of_le hc (by decide +kernel))
theorem mem_codeM {c m : Nat} : ∀ {L : List Nat} {k : Nat}, m ∈ codeM c L k ↔ ∃ i, L[i]? = some m ∧ c.testBit (k + i) = true
  | [], k => by simp [codeM]
  | a :: L, k => by
    rw [codeM]
    have ih := mem_codeM (c := c) (m := m) (L := L) (k := k + 1)
    constructor
    · intro h
      by_cases hk : c.testBit k = true
      · rw [if_pos hk] at h
        obtain rfl | h := List.mem_cons.mp h
        · exact ⟨0, rfl, hk⟩
        · obtain ⟨i, h1, h2⟩ := ih.mp h
          exact ⟨i + 1, h1, by rw [← h2]; congr 1; omega⟩
      · rw [if_neg hk] at h
        obtain ⟨i, h1, h2⟩ := ih.mp h
        exact ⟨i + 1, h1, by rw [← h2]; congr 1; omega⟩
    · rintro ⟨i, h1, h2⟩
      have tail : ∀ i, L[i]? = some m → c.testBit (k + (i + 1)) = true → m ∈ codeM c L (k + 1) := fun i a b => ih.mpr ⟨i, a, by rw [← b]; congr 1; omega⟩
      by_cases hk : c.testBit k = true
      · rw [if_pos hk]
        cases i with
        | zero => cases h1; exact List.mem_cons_self
        | succ i => exact List.mem_cons_of_mem _ (tail i h1 h2)
      · rw [if_neg hk]
        cases i with
        | zero => exact absurd h2 hk
        | succ i => exact tail i h1 h2
theorem codeM_of {L B : List Nat} (hnd : L.Nodup) (hB : ∀ b ∈ B, b ∈ L) : ∃ c, c < 2 ^ L.length ∧ ∀ m, m ∈ codeM c L 0 ↔ m ∈ B := by
  refine ⟨bset ((List.range L.length).filter fun i => decide (L.getD i 0 ∈ B)), ?_, fun m => ?_⟩
  · refine Nat.lt_pow_two_of_testBit _ fun i hi => ?_
    rw [bset_ok]
    refine decide_eq_false fun h => ?_
    have := List.mem_range.mp (List.mem_filter.mp h).1
    omega
  · rw [mem_codeM]
    constructor
    · rintro ⟨i, h1, h2⟩
      rw [Nat.zero_add, bset_ok] at h2
      have h3 := of_decide_eq_true (List.mem_filter.mp (of_decide_eq_true h2)).2
      rw [List.getD_eq_getElem?_getD, h1] at h3
      exact h3
    · intro h
      obtain ⟨i, hi⟩ := List.getElem?_of_mem (hB m h)
      refine ⟨i, hi, ?_⟩
      rw [Nat.zero_add, bset_ok]
      refine decide_eq_true (List.mem_filter.mpr ⟨List.mem_range.mpr (List.getElem?_eq_some_iff.mp hi).1, decide_eq_true ?_⟩)
      rw [List.getD_eq_getElem?_getD, hi]
      exact h
theorem any_mem {B B' : List Nat} (h : ∀ m, m ∈ B ↔ m ∈ B') (F : Nat → Bool) : B.any F = B'.any F := by
  refine Bool.eq_iff_iff.mpr (Iff.trans List.any_eq_true (Iff.trans ?_ List.any_eq_true.symm))
  exact ⟨fun ⟨x, a, b⟩ => ⟨x, (h x).mp a, b⟩, fun ⟨x, a, b⟩ => ⟨x, (h x).mpr a, b⟩⟩
theorem cc_mem {size : Nat} {B B' : List Nat} (h : ∀ m, m ∈ B ↔ m ∈ B') : ccL size B = ccL size B' := by
  have e : indB B = indB B' := funext fun m => any_mem h _
  have e2 : circB size B = circB size B' := by
    funext m
    unfold circB
    rw [e]
  unfold ccL
  rw [e2]
theorem rel_mem {B B' : List Nat} (h : ∀ m, m ∈ B ↔ m ∈ B') (x y : Nat) : relB B x y = relB B' x y := by
  unfold relB
  rw [any_mem h]
  simp only [h]
theorem bases_ex {size : Nat} {fm : List Nat} {t b c x : Nat} (G : Gat size fm t) (hb : b ∈ basesF fm t) (hc : c ∈ basesF fm t) (hx : b.testBit x = true) (hcx : c.testBit x = false) : ∃ y, c.testBit y = true ∧ b.testBit y = false ∧ b ^^^ (1 <<< x) ^^^ (1 <<< y) ∈ basesF fm t := by
  obtain ⟨b1, b2⟩ := bases_mem.mp hb
  obtain ⟨c1, c2⟩ := bases_mem.mp hc
  have b32 := bases_lt G.ok G.t hb
  have c32 := bases_lt G.ok G.t hc
  have hx5 := lt5 b32 hx
  have e1 := bit_off b b32 x hx5 hx
  have t32 := tog_lt b32 hx5
  rcases G.exb.ex b c b1 c1 x (by rw [Nat.testBit_xor, hx, hcx]; rfl) with h1 | ⟨y, h1, h2, h3⟩
  · have := b2 _ h1
    omega
  · have hy5 : y < 5 := tb_lt (k := 5) (Nat.xor_lt_two_pow (n := 5) b32 c32) h2
    cases hy : b.testBit y with
    | true =>
      have := bit_off _ t32 y hy5 (by rw [tog_ne (fun e => h1 e.symm)]; exact hy)
      have := b2 _ h3
      omega
    | false =>
      rw [Nat.testBit_xor, hy] at h2
      have e2 := bit_on _ t32 y hy5 (by rw [tog_ne (fun e => h1 e.symm)]; exact hy)
      refine ⟨y, by simpa using h2, hy, bases_mem.mpr ⟨h3, fun d hd => ?_⟩⟩
      have := b2 d hd
      omega
theorem lump_facts {size : Nat} {fm : List Nat} {t : Nat} (G : Gat size fm t) : (lumpsF size fm t).flatten.Perm (List.range size) ∧ (∀ l ∈ lumpsF size fm t, ∀ x ∈ l, ∀ y ∈ l, x = y ∨ relB (basesF fm t) x y = true) ∧ ∀ x, x < size → ∀ y, y < size → x ≠ y → relB (basesF fm t) x y = true → ∃ l ∈ lumpsF size fm t, x ∈ l ∧ y ∈ l := by
  have hz := G.ok.s5
  have hne := bases_ne (t := t) G.ok.ne
  have hrk : ∀ b ∈ basesF fm t, b ∈ rankL size (rkF fm t) := fun b hb => List.mem_filter.mpr ⟨List.mem_range.mpr (bases_sz G.ok G.t hb), decide_eq_true (bases_bits hb)⟩
  obtain ⟨c, hc, hm⟩ := codeM_of (L := rankL size (rkF fm t)) (List.nodup_range.filter _) hrk
  obtain ⟨b0, hb0⟩ := List.exists_mem_of_ne_nil _ hne
  have hrs : rkF fm t ≤ size := by
    rw [← bases_bits hb0]
    exact bits_size size (by omega) _ (bases_sz G.ok G.t hb0)
  have hk := chk_all size G.ok.s1 hz (rkF fm t) hrs c hc
  unfold chkM at hk
  generalize hB : codeM c (rankL size (rkF fm t)) 0 = B at hk hm
  change (B.isEmpty || (!exchB B || lumB size B)) = true at hk
  have hB0 : B.isEmpty = false := by
    cases B with
    | nil => exact absurd ((hm b0).mpr hb0) (by simp)
    | cons => rfl
  have hex : exchB B = true := by
    unfold exchB
    rw [List.all_eq_true]
    intro b hb
    rw [List.all_eq_true]
    intro c hc
    rw [List.all_eq_true]
    intro x hx
    cases h1 : b.testBit x with
    | false => rfl
    | true =>
      cases h2 : c.testBit x with
      | true => rfl
      | false =>
        obtain ⟨y, y1, y2, y3⟩ := bases_ex G ((hm b).mp hb) ((hm c).mp hc) h1 h2
        have : (List.range 5).any (fun y => c.testBit y && (!b.testBit y && decide ((b ^^^ (1 <<< x)) ^^^ (1 <<< y) ∈ B))) = true := by
          rw [List.any_eq_true]
          refine ⟨y, List.mem_range.mpr (lt5 (bases_lt G.ok G.t ((hm c).mp hc)) y1), ?_⟩
          rw [y1, y2, decide_eq_true ((hm _).mpr y3)]
          rfl
        rw [this]
        simp
  rw [hB0, hex] at hk
  have hl : lumB size B = true := by simpa using hk
  unfold lumB at hl
  have e := cc_mem (size := size) hm
  change ((putF size (ccL size B)).flatten.isPerm (List.range size) && ((putF size (ccL size B)).all (fun l => l.all fun x => l.all fun y => decide (x = y) || relB B x y) && (List.range size).all fun x => (List.range size).all fun y => decide (x = y) || (!relB B x y || (putF size (ccL size B)).any fun l => decide (x ∈ l) && decide (y ∈ l)))) = true at hl
  rw [e] at hl
  change ((lumpsF size fm t).flatten.isPerm (List.range size) && ((lumpsF size fm t).all (fun l => l.all fun x => l.all fun y => decide (x = y) || relB B x y) && (List.range size).all fun x => (List.range size).all fun y => decide (x = y) || (!relB B x y || (lumpsF size fm t).any fun l => decide (x ∈ l) && decide (y ∈ l)))) = true at hl
  obtain ⟨l1, hl⟩ := Bool.and_eq_true_iff.mp hl
  obtain ⟨l2, l3⟩ := Bool.and_eq_true_iff.mp hl
  refine ⟨List.isPerm_iff.mp l1, fun l hl x hx y hy => ?_, fun x hx y hy hxy hr => ?_⟩
  · have := List.all_eq_true.mp (List.all_eq_true.mp (List.all_eq_true.mp l2 l hl) x hx) y hy
    rcases Bool.or_eq_true_iff.mp this with h | h
    · exact .inl (of_decide_eq_true h)
    · exact .inr (by rw [← rel_mem hm]; exact h)
  · have := List.all_eq_true.mp (List.all_eq_true.mp l3 x (List.mem_range.mpr hx)) y (List.mem_range.mpr hy)
    rw [decide_eq_false hxy, Bool.false_or, rel_mem hm, hr, Bool.not_true, Bool.false_or, List.any_eq_true] at this
    obtain ⟨l, a, b⟩ := this
    obtain ⟨b1, b2⟩ := Bool.and_eq_true_iff.mp b
    exact ⟨l, a, of_decide_eq_true b1, of_decide_eq_true b2⟩
end W7
end
section
namespace W7
theorem same_tb (m x y : Nat) : sameB m x y = (m.testBit x == m.testBit y) := by
  have h : ∀ x, (m >>> x) &&& 1 = (m.testBit x).toNat := fun x => by rw [Nat.and_one_is_mod, Nat.shiftRight_eq_div_pow, Nat.toNat_testBit]
  unfold sameB
  rw [h, h]
  cases m.testBit x <;> cases m.testBit y <;> rfl
theorem rel_iff {B : List Nat} {x y : Nat} : relB B x y = true ↔ ∃ b ∈ B, b.testBit x = true ∧ b.testBit y = false ∧ (b ^^^ (1 <<< x)) ^^^ (1 <<< y) ∈ B := by
  unfold relB
  rw [List.any_eq_true]
  simp only [Bool.and_eq_true, Bool.not_eq_true', decide_eq_true_eq]
theorem bond_iff {fm : List Nat} {m x y : Nat} : bondB fm m x y = true ↔ m ∉ fm ∧ m ^^^ (1 <<< x) ∈ fm ∧ m ^^^ (1 <<< y) ∈ fm := by
  unfold bondB
  simp only [Bool.and_eq_true, Bool.not_eq_true', decide_eq_true_eq, decide_eq_false_iff_not]
theorem bases_of {fm : List Nat} {t c : Nat} (h : (c ^^^ t) ∈ fm) (hb : bits c = rkF fm t) : c ∈ basesF fm t := bases_mem.mpr ⟨h, fun d hd => by
  have := rk_le (t := t) hd
  rw [back] at this
  omega⟩
theorem rel_bond {size : Nat} {fm : List Nat} {t x y : Nat} (ok : FamOk size fm) (ht : t < 1 <<< size) (hx : x < size) (hy : y < size) (hxy : x ≠ y) (h : relB (basesF fm t) x y = true) : ∃ m, m < 1 <<< size ∧ bondB fm m x y = true ∧ sameB m x y = sameB t x y := by
  have hz := ok.s5
  obtain ⟨b, hb, b1, b2, b3⟩ := rel_iff.mp h
  obtain ⟨c1, c2⟩ := bases_mem.mp hb
  obtain ⟨d1, _⟩ := bases_mem.mp b3
  have hb32 := bases_lt ok ht hb
  have hbs := bases_sz ok ht hb
  refine ⟨(b ^^^ t) ^^^ (1 <<< x), tog_sh (xor_lt_sh hbs ht) hx, bond_iff.mpr ⟨fun hm => ?_, ?_, ?_⟩, ?_⟩
  · have e : (b ^^^ t) ^^^ (1 <<< x) = (b ^^^ (1 <<< x)) ^^^ t := by rw [Nat.xor_assoc, Nat.xor_comm t, ← Nat.xor_assoc]
    rw [e] at hm
    have := c2 _ hm
    have := bit_off b hb32 x (by omega) b1
    omega
  · rw [Nat.xor_assoc, Nat.xor_self, Nat.xor_zero]; exact c1
  · have e : (b ^^^ t) ^^^ (1 <<< x) ^^^ (1 <<< y) = ((b ^^^ (1 <<< x)) ^^^ (1 <<< y)) ^^^ t := by
      rw [Nat.xor_assoc b t, Nat.xor_comm t, ← Nat.xor_assoc b, Nat.xor_assoc _ t, Nat.xor_comm t, ← Nat.xor_assoc]
    rw [e]; exact d1
  · rw [same_tb, same_tb, tog_eq, tog_ne hxy, Nat.testBit_xor, Nat.testBit_xor, b1, b2]
    cases t.testBit x <;> cases t.testBit y <;> rfl
theorem bond_rk {size : Nat} {fm : List Nat} {m x y : Nat} (ok : FamOk size fm) (hm : m < 1 <<< size) (hx : x < size) (h : bondB fm m x y = true) : rkF fm m = 1 := by
  have hz := ok.s5
  obtain ⟨h1, h2, h3⟩ := bond_iff.mp h
  have a := rk_le (t := m) h2
  have e : (m ^^^ (1 <<< x)) ^^^ m = 1 <<< x := by rw [Nat.xor_comm m, Nat.xor_assoc, Nat.xor_self, Nat.xor_zero]
  rw [e, (one_and 0 (by decide) x (by omega)).2.2] at a
  obtain ⟨g, hg, eg⟩ := rk_at m ok.ne
  have hgm : g ^^^ m < 32 := sh32 hz (xor_lt_sh (ok.lt g hg) hm)
  have : rkF fm m ≠ 0 := fun e0 => by
    rw [e0] at eg
    have h0 := bits_zero _ hgm eg
    have : g = m := by
      have := congrArg (· ^^^ m) h0
      simp only [back, Nat.zero_xor] at this
      exact this
    exact h1 (this ▸ hg)
  omega
theorem bond_rel {size : Nat} {fm : List Nat} {m x y : Nat} (ok : FamOk size fm) (hm : m < 1 <<< size) (hx : x < size) (hy : y < size) (hxy : x ≠ y) (h : bondB fm m x y = true) : relB (basesF fm m) x y = true := by
  have hz := ok.s5
  have hr := bond_rk ok hm hx h
  obtain ⟨h1, h2, h3⟩ := bond_iff.mp h
  refine rel_iff.mpr ⟨1 <<< x, bases_of ?_ ?_, ?_, ?_, ?_⟩
  · rw [Nat.xor_comm]; exact h2
  · rw [hr]; exact (one_and 0 (by decide) x (by omega)).2.2
  · rw [tb_sh]; simp
  · rw [tb_sh]; simp [hxy]
  · rw [Nat.xor_self, Nat.zero_xor]
    refine bases_of ?_ ?_
    · rw [Nat.xor_comm]; exact h3
    · rw [hr]; exact (one_and 0 (by decide) y (by omega)).2.2
theorem rel_up {size : Nat} {fm : List Nat} {t x y z : Nat} (ok : FamOk size fm) (ht : t < 1 <<< size) (hx : x < size) (hy : y < size) (hxy : x ≠ y) (hz : z < size) (h : relB (basesF fm t) x y = true) (hu : upB fm t z = true) : rkF fm (t ^^^ (1 <<< z)) = rkF fm t + 1 ∧ relB (basesF fm (t ^^^ (1 <<< z))) x y = true ∧ sameB (t ^^^ (1 <<< z)) x y = sameB t x y := by
  have h5 := ok.s5
  have hu := of_decide_eq_true hu
  obtain ⟨b, hb, b1, b2, b3⟩ := rel_iff.mp h
  have key : ∀ c, c ∈ basesF fm t → c.testBit z = false ∧ rkF fm (t ^^^ (1 <<< z)) = rkF fm t + 1 ∧ (c ^^^ (1 <<< z)) ∈ basesF fm (t ^^^ (1 <<< z)) := fun c hc => by
    obtain ⟨c1, _⟩ := bases_mem.mp hc
    have c32 := bases_lt ok ht hc
    have cb := bases_bits hc
    have e : (c ^^^ (1 <<< z)) ^^^ (t ^^^ (1 <<< z)) = c ^^^ t := by rw [Nat.xor_comm t, ← Nat.xor_assoc, Nat.xor_assoc c, Nat.xor_self, Nat.xor_zero]
    have hle := rk_le (t := t ^^^ (1 <<< z)) c1
    have e2 : (c ^^^ t) ^^^ (t ^^^ (1 <<< z)) = c ^^^ (1 <<< z) := by rw [← Nat.xor_assoc, back]
    rw [e2] at hle
    have ht2 := bits_tog c c32 z (by omega)
    have hcz : c.testBit z = false := by
      cases hh : c.testBit z with
      | false => rfl
      | true =>
        have := bit_off c c32 z (by omega) hh
        omega
    have := bit_on c c32 z (by omega) hcz
    exact ⟨hcz, by omega, bases_of (by rw [e]; exact c1) (by omega)⟩
  obtain ⟨k1, k2, k3⟩ := key b hb
  obtain ⟨l1, l2, l3⟩ := key _ b3
  have zx : z ≠ x := fun e => by rw [e, b1] at k1; cases k1
  have zy : z ≠ y := fun e => by
    rw [e, tog_eq, tog_ne hxy, b2] at l1
    cases l1
  refine ⟨k2, rel_iff.mpr ⟨b ^^^ (1 <<< z), k3, by rw [tog_ne zx]; exact b1, by rw [tog_ne zy]; exact b2, ?_⟩, by rw [same_tb, same_tb, tog_ne zx, tog_ne zy]⟩
  have e : (b ^^^ (1 <<< z)) ^^^ (1 <<< x) ^^^ (1 <<< y) = ((b ^^^ (1 <<< x)) ^^^ (1 <<< y)) ^^^ (1 <<< z) := by
    rw [Nat.xor_assoc b, Nat.xor_comm (1 <<< z), ← Nat.xor_assoc b, Nat.xor_assoc _ (1 <<< z), Nat.xor_comm (1 <<< z), ← Nat.xor_assoc]
  rw [e]; exact l3
theorem peak_of {size : Nat} {fm : List Nat} {x y : Nat} (ok : FamOk size fm) (hx : x < size) (hy : y < size) (hxy : x ≠ y) : ∀ (d t : Nat), t < 1 <<< size → size - rkF fm t ≤ d → relB (basesF fm t) x y = true → ∃ p, p < 1 <<< size ∧ topB size fm p = true ∧ relB (basesF fm p) x y = true ∧ sameB p x y = sameB t x y := by
  intro d
  induction d with
  | zero =>
    intro t ht hd h
    refine ⟨t, ht, ?_, h, rfl⟩
    unfold topB
    rw [List.all_eq_true]
    intro z hz
    cases hu : upB fm t z with
    | false => rfl
    | true =>
      obtain ⟨r1, r2, _⟩ := rel_up ok ht hx hy hxy (List.mem_range.mp hz) h hu
      obtain ⟨b, hb⟩ := List.exists_mem_of_ne_nil _ (bases_ne (t := t ^^^ (1 <<< z)) ok.ne)
      have hp := tog_sh ht (List.mem_range.mp hz)
      have := bits_size size (by have := ok.s5; omega) b (bases_sz ok hp hb)
      rw [bases_bits hb] at this
      omega
  | succ d ih =>
    intro t ht hd h
    cases ht2 : topB size fm t with
    | true => exact ⟨t, ht, ht2, h, rfl⟩
    | false =>
      unfold topB at ht2
      rw [List.all_eq_false] at ht2
      obtain ⟨z, hz, hu⟩ := ht2
      have hz := List.mem_range.mp hz
      have hu : upB fm t z = true := by simpa using hu
      obtain ⟨r1, r2, r3⟩ := rel_up ok ht hx hy hxy hz h hu
      obtain ⟨p, p1, p2, p3, p4⟩ := ih _ (tog_sh ht hz) (by omega) r2
      exact ⟨p, p1, p2, p3, p4.trans r3⟩
end W7
end
section
namespace W7
def ordsL : List (List Nat) := [[0, 1, 2, 3], [3, 1, 0, 2], [1, 2, 3, 0], [2, 0, 3, 1]]
def rowsT : List (List Nat) := [[], [2], [1, 3], [0, 1, 3]]
def lostF (o : List Nat) (i : Nat) : List Nat := (rowsT.take i).map fun row => (row.map fun th => 1 <<< o.getD th 0).sum
def msT (o : List Nat) (lot : Nat) : List Nat := ((List.range 16).filter fun n => !decide (n ∈ lostF o 4)).map fun n => n ^^^ lot
theorem twelve_ok : ∀ r : Nat, r < 4 → ∀ lot : Nat, lot < 16 → (bndB 4 (msT (ordsL.getD r []) lot) ((ordsL.getD r []).getD 0 0) ((ordsL.getD r []).getD 1 0) = true ∧ bndB 4 (msT (ordsL.getD r []) lot) ((ordsL.getD r []).getD 1 0) ((ordsL.getD r []).getD 2 0) = true ∧ bndB 4 (msT (ordsL.getD r []) lot) ((ordsL.getD r []).getD 0 0) ((ordsL.getD r []).getD 2 0) = false ∧ mateB 4 (msT (ordsL.getD r []) lot) ((ordsL.getD r []).getD 2 0) ((ordsL.getD r []).getD 0 0) = false) ∧ ((msT (ordsL.getD r []) lot).Nodup ∧ (msT (ordsL.getD r []) lot).length = 12 ∧ ∀ m ∈ msT (ordsL.getD r []) lot, m < 1 <<< 4) := by decide +kernel
theorem ords_ok : ∀ r : Nat, r < 4 → (ordsL.getD r []).length = 4 ∧ (∀ i : Nat, i < 4 → (ordsL.getD r []).getD i 0 < 4) ∧ (ordsL.getD r []).getD 0 0 ≠ (ordsL.getD r []).getD 1 0 ∧ (ordsL.getD r []).getD 1 0 ≠ (ordsL.getD r []).getD 2 0 ∧ (ordsL.getD r []).getD 0 0 ≠ (ordsL.getD r []).getD 2 0 := by decide +kernel
end W7
end
section
namespace W7
open PySem PySem.Spec PyProof.Rows L2 L3 Evl
open C8 (Cal pe_c Mak pe_mk Met pe_mt pe_mt0)
theorem mn_perm {xs ys : List Nat} (h : xs.Perm ys) : mn xs = mn ys := by
  cases xs with
  | nil => rw [h.nil_eq]
  | cons a as =>
    have hy : ys ≠ [] := fun e => by rw [e] at h; have := h.length_eq; simp at this
    obtain ⟨h1, h2⟩ := mn_ok (ns := a :: as) (by simp)
    obtain ⟨h3, h4⟩ := mn_ok hy
    have := h2 _ (h.mem_iff.mpr h3)
    have := h4 _ (h.mem_iff.mp h1)
    omega
theorem dep_perm {size : Nat} {ms fm : List Nat} (h : ms.Perm fm) : depF size ms = depF size fm := by
  unfold depF
  refine List.map_congr_left fun t _ => ?_
  unfold rkF
  exact mn_perm (h.map _)
theorem rk_zero {size : Nat} {fm : List Nat} {t : Nat} (ok : FamOk size fm) (ht : t < 1 <<< size) (h : rkF fm t = 0) : t ∈ fm := by
  obtain ⟨g, hg, eg⟩ := rk_at t ok.ne
  rw [h] at eg
  have h0 := bits_zero _ (sh32 ok.s5 (xor_lt_sh (ok.lt g hg) ht)) eg
  have : g = t := by
    have := congrArg (· ^^^ t) h0
    simp only [back, Nat.zero_xor] at this
    exact this
  exact this ▸ hg
theorem rk_in {fm : List Nat} {t : Nat} (h : t ∈ fm) : rkF fm t = 0 := by
  have := rk_le (t := t) h
  rw [Nat.xor_self] at this
  have h0 : bits 0 = 0 := by decide
  omega
theorem down_bond {size : Nat} {fm : List Nat} {t x y : Nat} (ok : FamOk size fm) (ht : t < 1 <<< size) (h1 : rkF fm t = 1) (hx : x ∈ downF size fm t) (hy : y ∈ downF size fm t) : bondB fm t x y = true ∧ x < size ∧ y < size := by
  unfold downF at hx hy
  obtain ⟨x1, x2⟩ := List.mem_filter.mp hx
  obtain ⟨y1, y2⟩ := List.mem_filter.mp hy
  have x1 := List.mem_range.mp x1
  have y1 := List.mem_range.mp y1
  have x2 := of_decide_eq_true x2
  have y2 := of_decide_eq_true y2
  refine ⟨bond_iff.mpr ⟨fun h => ?_, rk_zero ok (tog_sh ht x1) (by omega), rk_zero ok (tog_sh ht y1) (by omega)⟩, x1, y1⟩
  have := rk_in h
  omega
theorem part_eq {fm : List Nat} {one two x : Nat} (n1 : one ^^^ (1 <<< x) ∉ fm) : partF fm one two x = (lotF (one ^^^ two)).filter fun y => !decide (y = x) && decide (((one ^^^ (1 <<< x)) ^^^ (1 <<< y)) ∈ fm) := by
  unfold partF
  refine List.filter_congr fun y _ => ?_
  by_cases e : y = x
  · subst e
    rw [Nat.or_self, decide_eq_false n1]
    simp
  · have e2 : (1 <<< x) ||| (1 <<< y) = (1 <<< x) ^^^ (1 <<< y) := by
      apply Nat.eq_of_testBit_eq
      intro j
      rw [Nat.testBit_or, Nat.testBit_xor, tb_sh, tb_sh]
      by_cases a : x = j
      · by_cases b : y = j
        · exact absurd (b.trans a.symm) e
        · simp [a, b]
      · simp [a]
    rw [e2, ← Nat.xor_assoc]
    simp [e]
/-- a if c else b, as a test -/
def tIfT (t u w : TT) : TT := fun σ H Q => t σ H fun b H1 => if b = true then u σ H1 Q else w σ H1 Q
theorem pt_ifT {X : Cx} {c a b : Expr} {pos : Pos} {t u w : TT} (hc : PT X c t) (ha : PT X a u) (hb : PT X b w) : PT X (.IfExp c a b pos) (tIfT t u w) := by
  constructor
  intro pins s σ H Q I h
  apply isTrue_IfExp
  apply thn (hc.run pins s σ H _ I h)
  rintro (_ | _) s1 ⟨H1, I1, way⟩
  · exact hb.run pins s1 σ H1 Q I1 way
  · exact ha.run pins s1 σ H1 Q I1 way
theorem et_ifT {σ : L2.St} {H : Hp} {t u w : TT} {c b : Bool} (h : EvT t σ H c) (h1 : c = true → EvT u σ H b) (h2 : c = false → EvT w σ H b) : EvT (tIfT t u w) σ H b := fun H1 e Q q => h H1 e _ fun H2 e2 => by
  cases c with
  | true => exact h1 rfl H2 (e.trans e2) Q fun H3 e3 => q H3 (e2.trans e3)
  | false => exact h2 rfl H2 (e.trans e2) Q fun H3 e3 => q H3 (e2.trans e3)
section
variable {K : PySem.W.Frag} {σ : L2.St} {H : Hp} {ta tb te tl : TE} {v : V} {tt : TT}
theorem s_forUN {D : Ends} {tu : TS} {j : Nat} {ns : List Nat} (h : EvU tl σ H (nv ns)) (k : ∀ u H1, H u = none → Ex H H1 → H1 u = some (.tup (nv ns)) → tFor (iTup K (tC (.ref u))) (gName j) tu D σ H1) : tFor (iTup K tl) (gName j) tu D σ H := h H (Ex.refl H) _ fun u H1 hu e1 h1 => k u H1 hu e1 h1
theorem shaped_nats (ns : List Nat) : SeqAt.shaped (.list ((ns.map fun n => ((n : Nat) : Int)).map PyData.int)) = true := by
  have h2 := PySem.W.depthAll_ints (ns.map fun n => ((n : Nat) : Int))
  have h3 : PyData.depth (.list ((ns.map fun n => ((n : Nat) : Int)).map PyData.int)) ≤ 64 := by simp only [PyData.depth]; omega
  show (PyData.canLay0 (.list ((ns.map fun n => ((n : Nat) : Int)).map PyData.int)) && decide (PyData.depth (.list ((ns.map fun n => ((n : Nat) : Int)).map PyData.int)) ≤ 64)) = true
  rw [Bool.and_eq_true]
  exact ⟨by simp only [PyData.canLay0]; exact PySem.W.canLayAll0_ints _, decide_eq_true h3⟩
/-- != of two lists of the same naturals -/
theorem ev_neNats {ns : List Nat} {a b : Addr} (ha : Ev ta σ H (.ref a)) (hb : Ev tb σ H (.ref b)) (h1 : H a = some (.lst (nv ns))) (h2 : H b = some (.lst (nv ns))) : Ev (tOp (rNeD K) ta tb) σ H (.bl false) := fun H1 e Q q =>
  ha H1 e _ fun H2 e2 => hb H2 (e.trans e2) _ fun H3 e3 => by
    have e03 := (e.trans e2).trans e3
    refine ⟨_, _, .lst (sq_of (e03 _ _ h1)) (dp_nats ns), .lst (sq_of (e03 _ _ h2)) (dp_nats ns), shaped_nats ns, shaped_nats ns, ?_⟩
    rw [eqv_self (shaped_nats ns)]
    exact q H3 (e2.trans e3)
end
section
variable {P : Program} {w : World} {K : PySem.W.Frag} {mg : Str → Option Value} {base : Heap} {f : Addr} {fd : FuncData} {CF CA : Addr}
def spLawFam (K : PySem.W.Frag) (CF : Addr) : Sp := fun vs H Q _ => ∃ (a : Addr) (size : Nat) (p : Addr) (ms fm : List Nat), vs = [.ref a, .int size, .ref p] ∧ FamAt H CF a size fm ∧ FamIn H CF a fm ∧ FamOk size fm ∧ EX (· ∈ fm) ∧ SqL K H p (nv ms) ∧ ms.Perm fm ∧ RetV (.bl true) H Q
theorem sc_law_outside : FnScope ["_law_family_here", "_law_size", "_law_masks", "_law_depths_here", "_law_lot_here", "_law_things", "_law_x", "_law_y", "_law_alike"] ["_law_family_here", "_law_size", "_law_masks"] (defScope (top 86)) := ⟨rfl, rfl, rfl, by decide +kernel, rfl, by decide +kernel, by decide +kernel⟩
theorem c_law_outside (C : FC K CF) (F : FnP K "_law_outside" (top 86) f fd) (g : mg "_law_outside" = some (.ref f)) (B : Bi mg) (c_law_depths : Cal P w K mg base 2 "_law_depths" (spLawDepths K) []) (c_law_lot : Cal P w K mg base 1 "_law_lot" spLot []) (c_lowers : Cal P w K mg base 6 "lowers" (spFamLot CF fun size fm t => RetU (nv (downF size fm t))) []) (c_are_bonded : Cal P w K mg base 6 "are_bonded" (spPairB CF bndB) []) (c_are_rivals : Cal P w K mg base 6 "are_rivals" (spPairB CF rivB) []) (c_are_mates : Cal P w K mg base 6 "are_mates" (spPairB CF mateB) []) : Cal P w K mg base 7 "_law_outside" (spLawFam K CF) [] := by
  refine mkCal F g sc_law_outside (fun _ _ _ _ _ _ us hl => match us, hl with | [_, _, _], _ => rfl) (fun vs H Q E h => ?_) (fun cdv A outer s H vs Q E hr h => ?_)
  · obtain ⟨a, size, p, ms, fm, rfl, _⟩ := h
    rfl
  · obtain ⟨a, size, p, ms, fm, rfl, hf, hin, ok, hex, hp, hpm, q⟩ := h
    have hz := ok.s5
    have h64 := pow64 (n := size) (by omega)
    have hml : ms.length ≤ 64 := by rw [hpm.length_eq]; exact ok.len
    have hne : ms ≠ [] := fun e => by rw [e] at hpm; exact ok.ne hpm.nil_eq.symm
    refine ⟨_, (pss_cons (ps_set (i := 3) sc_law_outside.nd rfl (by first | exact Or.inl rfl | exact Or.inr rfl) (pe_c c_law_depths hr (by decide) rfl (pa_cons (pv 1) (pa_cons (pv 2) pa_nil)))) (pss_cons (ps_for PassesOwn.never rfl (pi_range1 rfl B.range (pa_cons (pe_op on_shl (pe_nat 1 pe_int) (pv 1)) pa_nil)) (pg_name (i := 4) sc_law_outside.nd rfl (by first | exact Or.inl rfl | exact Or.inr rfl)) (pss_one (ps_if (pt_cmpR on_eq (pe_ix (on_ix (K := K)) (pv 3) (pv 4) (fun _ _ => rfl)) (pe_nat 1 pe_int) (nomark _)) (pss_cons (ps_set (i := 5) sc_law_outside.nd rfl (by first | exact Or.inl rfl | exact Or.inr rfl) (pe_c c_lowers hr (by decide) rfl (pa_cons (pv 0) (pa_cons (pe_c c_law_lot hr (by decide) rfl (pa_cons (pv 4) pa_nil)) pa_nil)))) (pss_one (ps_for PassesOwn.never rfl (pi_tup (pv 5)) (pg_name (i := 6) sc_law_outside.nd rfl (by first | exact Or.inl rfl | exact Or.inr rfl)) (pss_one (ps_for PassesOwn.never rfl (pi_tup (pv 5)) (pg_name (i := 7) sc_law_outside.nd rfl (by first | exact Or.inl rfl | exact Or.inr rfl)) (pss_cons (ps_if (PW.pt (pw_and (pt_cmpR on_ne (pv 6) (pv 7) (nomark _)) (pw_and1 (pt_not (pt_val (pe_c c_are_bonded hr (by decide) rfl (pa_cons (pv 0) (pa_cons (pv 6) (pa_cons (pv 7) pa_nil))))))))) (pss_one (ps_ret pe_bl)) pss_nil) (pss_cons (ps_set (i := 8) sc_law_outside.nd rfl (by first | exact Or.inl rfl | exact Or.inr rfl) (pe_cmpR on_eq (pe_op on_and (pe_op on_shr (pv 4) (pv 6)) (pe_nat 1 pe_int)) (pe_op on_and (pe_op on_shr (pv 4) (pv 7)) (pe_nat 1 pe_int)) (nomark _))) (pss_one (ps_if (PW.pt (pw_and (pt_cmpR on_ne (pv 6) (pv 7) (nomark _)) (pw_and1 (pt_not (pt_ifT (pt_val (pv 8)) (pt_val (pe_c c_are_rivals hr (by decide) rfl (pa_cons (pv 0) (pa_cons (pv 6) (pa_cons (pv 7) pa_nil))))) (pt_val (pe_c c_are_mates hr (by decide) rfl (pa_cons (pv 0) (pa_cons (pv 6) (pa_cons (pv 7) pa_nil)))))))))) (pss_one (ps_ret pe_bl)) pss_nil))))))))) pss_nil))) (pss_one (ps_ret pe_bl)))), ?_⟩
    refine q_asgL (el_call (xs := nv (depF size fm)) (ea_cons (ev_v 1) (ea_cons (ev_v 2) ea_nil)) fun H2 e2 Q2 q2 E2 => ⟨size, p, ms, rfl, hz, ex_l e2 hp, hml, hne, by rw [dep_perm hpm]; exact q2⟩) fun d H1 hd e1 h1 => ?_
    refine q_forR1 (n := ((1 <<< size : Nat) : Int)) (ea_cons (ev_nc ev_c (ev_v 1) ⟨by decide, by omega⟩) ea_nil) ⟨Int.natCast_nonneg _, Int.le_trans (Int.ofNat_le.mpr h64) (by decide)⟩ (fun i σ H' => Ex H1 H' ∧ ∃ v4 v5 v6 v7 v8, σ = [some (.ref a), some (.int size), some (.ref p), some (.ref d), v4, v5, v6, v7, v8]) (fun H2 e2 => ⟨e2, _, _, _, _, _, rfl⟩) ?_ ?_
    · rintro t σ H2 ht ⟨e2, v4, v5, v6, v7, v8, rfl⟩
      have hts : t < 1 <<< size := by omega
      refine s_when (b := decide (rkF fm t = 1)) (et_test (ev_n (ev_ix (sq_of (e2 _ _ h1)) (ev_v 3) (ev_v 4) (nv_rng hts)) ev_c)) (fun hb H3 e3 => ?_) (fun hb H3 e3 => ⟨e2.trans e3, _, _, _, _, _, rfl⟩)
      have hr1 := of_decide_eq_true hb
      have f3 := hf.ex (e1.trans (e2.trans e3))
      refine q_asgU (eu_call2U (xs := nv (lotF t)) (ev_v 0) (eu_call (ea_cons (ev_v 4) ea_nil) fun H4 e4 Q4 q4 E4 => ⟨t, rfl, q4⟩) fun r H4 h4 e4 H5 e5 Q5 q5 E5 => ⟨a, r, size, fm, t, rfl, f3.ex (e4.trans e5), ok, hts, .inr (e5 _ _ h4), q5⟩) fun u H4 hu e4 h4 => ?_
      have e04 := e2.trans (e3.trans e4)
      have f4 := f3.ex e4
      refine s_forTN (ns := downF size fm t) (ev_v 5) (st_of h4) (Ex.refl _) (fun i σ H' => Ex H4 H' ∧ ∃ v6 v7 v8, σ = [some (.ref a), some (.int size), some (.ref p), some (.ref d), some (.int (t : Int)), some (.ref u), v6, v7, v8]) (fun H5 e5 => ⟨e5, _, _, _, rfl⟩) (fun i σ' H' h => h.1) ?_ ?_
      · rintro i x σ H5 hx ⟨e5, v6, v7, v8, rfl⟩
        have hxm := List.mem_of_getElem? hx
        show tFor _ _ _ _ [some (.ref a), some (.int size), some (.ref p), some (.ref d), some (.int (t : Int)), some (.ref u), some (.int (x : Nat)), v7, v8] H5
        refine s_forTN (ns := downF size fm t) (ev_v 5) (st_of h4) e5 (fun i σ H' => Ex H4 H' ∧ ∃ v7 v8, σ = [some (.ref a), some (.int size), some (.ref p), some (.ref d), some (.int (t : Int)), some (.ref u), some (.int (x : Nat)), v7, v8]) (fun H6 e6 => ⟨e5.trans e6, _, _, rfl⟩) (fun i σ' H' h => h.1) ?_ ?_
        · rintro k y σ H6 hy ⟨e6, v7, v8, rfl⟩
          have hym := List.mem_of_getElem? hy
          obtain ⟨hbd, hxs, hys⟩ := down_bond ok hts hr1 hxm hym
          have f6 := f4.ex e6
          have hmr := List.mem_range.mpr hts
          have b1 : bndB size fm x y = true := List.any_eq_true.mpr ⟨t, hmr, hbd⟩
          show tSeq _ _ _ [some (.ref a), some (.int size), some (.ref p), some (.ref d), some (.int (t : Int)), some (.ref u), some (.int (x : Nat)), some (.int (y : Nat)), v8] H6
          refine q_when (b := !decide (x = y) && !true) (et_and (et_test (ev_n (ev_v 6) (ev_v 7))) fun hxy => et_not (et_B (ev_call (z := .bl true) (ea_cons (ev_v 0) (ea_cons (ev_v 6) (ea_cons (ev_v 7) ea_nil))) fun H7 e7 Q7 q7 E7 => ⟨a, size, fm, x, y, rfl, f6.ex e7, ok, hxs, hys, fun e => by simp [e] at hxy, by rw [b1]; exact q7⟩))) (fun hb => absurd hb (by simp)) (fun _ H7 e7 => ?_)
          refine q_asg (v := .bl (sameB t x y)) (ev_n (ev_n (ev_n (ev_v 4) (ev_v 6)) ev_c) (ev_n (ev_n (ev_v 4) (ev_v 7)) ev_c)) fun H8 e8 => ?_
          have f8 := f6.ex (e7.trans e8)
          refine s_when (b := !decide (x = y) && !true) (et_and (et_test (ev_n (ev_v 6) (ev_v 7))) fun hxy => ?_) (fun hb => absurd hb (by simp)) (fun _ H9 e9 => ⟨e6.trans (e7.trans (e8.trans e9)), _, _, rfl⟩)
          have hne : x ≠ y := fun e => by simp [e] at hxy
          refine et_not (et_ifT (c := sameB t x y) (et_B (ev_v 8)) (fun hs => et_B (ev_call (ea_cons (ev_v 0) (ea_cons (ev_v 6) (ea_cons (ev_v 7) ea_nil))) fun H9 e9 Q9 q9 E9 => ⟨a, size, fm, x, y, rfl, f8.ex e9, ok, hxs, hys, hne, ?_⟩)) (fun hs => et_B (ev_call (ea_cons (ev_v 0) (ea_cons (ev_v 6) (ea_cons (ev_v 7) ea_nil))) fun H9 e9 Q9 q9 E9 => ⟨a, size, fm, x, y, rfl, f8.ex e9, ok, hxs, hys, hne, ?_⟩)))
          · have : rivB size fm x y = true := List.any_eq_true.mpr ⟨t, hmr, by rw [hbd, hs]; rfl⟩
            rw [this]; exact q9
          · have : mateB size fm x y = true := List.any_eq_true.mpr ⟨t, hmr, by rw [hbd, hs]; rfl⟩
            rw [this]; exact q9
        · rintro σ H6 ⟨e6, v7, v8, rfl⟩
          exact ⟨e6, _, _, _, rfl⟩
      · rintro σ H5 ⟨e5, v6, v7, v8, rfl⟩
        exact ⟨e04.trans e5, _, _, _, _, _, rfl⟩
    · rintro σ H2 ⟨e2, v4, v5, v6, v7, v8, rfl⟩
      exact s_ret ev_c fun H3 e3 => q H3 (e1.trans (e2.trans e3))
theorem sc_law_common : FnScope ["_law_family_here", "_law_size", "_law_masks", "_law_row", "_law_one", "_law_two", "_law_span", "_law_thing", "_law_bit", "_law_first", "_law_second", "_law_due", "_law_y"] ["_law_family_here", "_law_size", "_law_masks"] (defScope (top 85)) := ⟨rfl, rfl, rfl, by decide +kernel, rfl, by decide +kernel, by decide +kernel⟩
theorem c_law_common (C : FC K CF) (F : FnP K "_law_common" (top 85) f fd) (g : mg "_law_common" = some (.ref f)) (B : Bi mg) (c_law_inside : Cal P w K mg base 1 "_law_inside" (spIns K) []) (c_law_lot : Cal P w K mg base 1 "_law_lot" spLot []) (c_partners : Cal P w K mg base 6 "partners" (spPart CF) []) : Cal P w K mg base 7 "_law_common" (spLawFam K CF) [] := by
  refine mkCal F g sc_law_common (fun _ _ _ _ _ _ us hl => match us, hl with | [_, _, _], _ => rfl) (fun vs H Q E h => ?_) (fun cdv A outer s H vs Q E hr h => ?_)
  · obtain ⟨a, size, p, ms, fm, rfl, _⟩ := h
    rfl
  · obtain ⟨a, size, p, ms, fm, rfl, hf, hin, ok, hex, hp, hpm, q⟩ := h
    have hz := ok.s5
    have h64 := pow64 (n := size) (by omega)
    refine ⟨_, (pss_cons (ps_set (i := 3) sc_law_common.nd rfl (by first | exact Or.inl rfl | exact Or.inr rfl) (pe_c c_law_inside hr (by decide) rfl (pa_cons (pv 1) (pa_cons (pv 2) pa_nil)))) (pss_cons (ps_for PassesOwn.never rfl (pi_list (pv 2)) (pg_name (i := 4) sc_law_common.nd rfl (by first | exact Or.inl rfl | exact Or.inr rfl)) (pss_one (ps_for PassesOwn.never rfl (pi_list (pv 2)) (pg_name (i := 5) sc_law_common.nd rfl (by first | exact Or.inl rfl | exact Or.inr rfl)) (pss_cons (ps_set (i := 6) sc_law_common.nd rfl (by first | exact Or.inl rfl | exact Or.inr rfl) (pe_op on_xor (pv 4) (pv 5))) (pss_one (ps_for PassesOwn.never rfl (pi_tup (pe_c c_law_lot hr (by decide) rfl (pa_cons (pv 6) pa_nil))) (pg_name (i := 7) sc_law_common.nd rfl (by first | exact Or.inl rfl | exact Or.inr rfl)) (pss_cons (ps_set (i := 8) sc_law_common.nd rfl (by first | exact Or.inl rfl | exact Or.inr rfl) (pe_op on_shl (pe_nat 1 pe_int) (pv 7))) (pss_one (ps_if (PW.pt (pw_and (pt_cmpR on_lt (pv 4) (pv 5) (nomark _)) (pw_and (pt_not (pt_val (pe_ix (on_ix (K := K)) (pv 3) (pe_op on_xor (pv 4) (pv 8)) (fun _ _ => rfl)))) (pw_and1 (pt_not (pt_val (pe_ix (on_ix (K := K)) (pv 3) (pe_op on_xor (pv 5) (pv 8)) (fun _ _ => rfl)))))))) (pss_cons (ps_set (i := 9) sc_law_common.nd rfl (by first | exact Or.inl rfl | exact Or.inr rfl) (pe_c c_partners hr (by decide) rfl (pa_cons (pv 0) (pa_cons (pe_c c_law_lot hr (by decide) rfl (pa_cons (pv 4) pa_nil)) (pa_cons (pe_c c_law_lot hr (by decide) rfl (pa_cons (pv 5) pa_nil)) (pa_cons (pv 7) pa_nil)))))) (pss_cons (ps_set (i := 10) sc_law_common.nd rfl (by first | exact Or.inl rfl | exact Or.inr rfl) (pe_c c_partners hr (by decide) rfl (pa_cons (pv 0) (pa_cons (pe_c c_law_lot hr (by decide) rfl (pa_cons (pv 5) pa_nil)) (pa_cons (pe_c c_law_lot hr (by decide) rfl (pa_cons (pv 4) pa_nil)) (pa_cons (pv 7) pa_nil)))))) (pss_cons (ps_setLc (i := 11) (own := [("_law_y", 12)]) (g := gName 12) (by rfl) sc_law_common.nd rfl rfl (sw_true rfl rfl rfl (by decide +kernel)) (pi_tup (pe_c c_law_lot hr (by decide) rfl (pa_cons (pv 6) pa_nil))) (blkOk_by (own := [("_law_y", 12)]) (N := ["_law_family_here", "_law_size", "_law_masks", "_law_row", "_law_one", "_law_two", "_law_span", "_law_thing", "_law_bit", "_law_first", "_law_second", "_law_due", "_law_y"]) (sc := defScope (top 85)) (by decide +kernel)) (fun _ _ _ _ _ => (pg_name (i := 12) sc_law_common.nd rfl (by first | exact Or.inl rfl | exact Or.inr rfl))) (fun _ _ _ _ _ => (pts_one (PW.pt (pw_and (pt_cmpR on_ne (pv 12) (pv 7) (nomark _)) (pw_and1 (pt_val (pe_ix (on_ix (K := K)) (pv 3) (pe_op on_xor (pe_op on_xor (pv 4) (pv 8)) (pe_op on_shl (pe_nat 1 pe_int) (pv 12))) (fun _ _ => rfl)))))))) (fun _ _ _ _ _ => (pv 12))) (pss_one (ps_if (PW.pt (pw_or (pt_cmpR (op_neD hr.units) (pv 9) (pv 11) (nomark _)) (pw_or1 (pt_cmpR on_eq (pe_callB call_len_seq (by rfl) B.len (by decide +kernel) (pa_cons (pe_lc (own := [("_law_y", 12)]) (g := gName 12) (by rfl) sc_law_common.nd (pi_list (pv 9)) (blkOk_by (own := [("_law_y", 12)]) (N := ["_law_family_here", "_law_size", "_law_masks", "_law_row", "_law_one", "_law_two", "_law_span", "_law_thing", "_law_bit", "_law_first", "_law_second", "_law_due", "_law_y"]) (sc := defScope (top 85)) (by decide +kernel)) (fun _ _ _ _ _ => (pg_name (i := 12) sc_law_common.nd rfl (by first | exact Or.inl rfl | exact Or.inr rfl))) (fun _ _ _ _ _ => (pts_one (PW.pt (pw_and (pt_cmpR (op_in_seqK (K := K) rfl) (pv 12) (pv 10) rfl) (pw_and1 (pt_cmpR on_ne (pv 12) (pv 7) (nomark _))))))) (fun _ _ _ _ _ => (pv 12))) pa_nil)) (pe_nat 0 pe_int) (nomark _))))) (pss_one (ps_ret pe_bl)) pss_nil))))) pss_nil))))))))) (pss_one (ps_ret pe_bl)))), ?_⟩
    refine q_asgL (el_call (xs := bv (insF size fm)) (ea_cons (ev_v 1) (ea_cons (ev_v 2) ea_nil)) fun H2 e2 Q2 q2 E2 => ⟨size, p, ms, rfl, ex_l e2 hp, by omega, fun m hm => ok.lt m (hpm.mem_iff.mp hm), by rw [ins_perm hpm]; exact q2⟩) fun r H1 hr1 e1 h1 => ?_
    refine q_forLN (ev_v 2) (ex_l e1 hp) (Ex.refl _) (fun i σ H' => Ex H1 H' ∧ ∃ v4 v5 v6 v7 v8 v9 v10 v11 v12, σ = [some (.ref a), some (.int size), some (.ref p), some (.ref r), v4, v5, v6, v7, v8, v9, v10, v11, v12]) (fun H2 e2 => ⟨e2, _, _, _, _, _, _, _, _, _, rfl⟩) (fun i σ H' h => h.1) ?_ ?_
    · rintro i one σ H2 hn ⟨e2, v4, v5, v6, v7, v8, v9, v10, v11, v12, rfl⟩
      have h1m := hpm.mem_iff.mp (List.mem_of_getElem? hn)
      have h1l := ok.lt one h1m
      show tFor _ _ _ _ [some (.ref a), some (.int size), some (.ref p), some (.ref r), some (.int (one : Nat)), v5, v6, v7, v8, v9, v10, v11, v12] H2
      refine s_forLN (ev_v 2) (ex_l e1 hp) e2 (fun i σ H' => Ex H1 H' ∧ ∃ v5 v6 v7 v8 v9 v10 v11 v12, σ = [some (.ref a), some (.int size), some (.ref p), some (.ref r), some (.int (one : Nat)), v5, v6, v7, v8, v9, v10, v11, v12]) (fun H3 e3 => ⟨e2.trans e3, _, _, _, _, _, _, _, _, rfl⟩) (fun i σ H' h => h.1) ?_ ?_
      · rintro k two σ H3 hn2 ⟨e3, v5, v6, v7, v8, v9, v10, v11, v12, rfl⟩
        have h2m := hpm.mem_iff.mp (List.mem_of_getElem? hn2)
        have h2l := ok.lt two h2m
        have hsl := xor_lt_sh h1l h2l
        show tSeq _ _ _ [some (.ref a), some (.int size), some (.ref p), some (.ref r), some (.int (one : Nat)), some (.int (two : Nat)), v6, v7, v8, v9, v10, v11, v12] H3
        refine q_asg (v := .int ((one ^^^ two : Nat) : Nat)) (ev_n (ev_v 4) (ev_v 5)) fun H4 e4 => ?_
        have e14 := e3.trans e4
        refine s_forUN (ns := lotF (one ^^^ two)) (eu_call (ea_cons (ev_v 6) ea_nil) (fun H5 e5 Q5 q5 E5 => ⟨_, rfl, q5⟩)) fun u H5 hu e5 h5 => ?_
        have e15 := e14.trans e5
        refine s_forTN (ns := lotF (one ^^^ two)) ev_c (st_of h5) (Ex.refl _) (fun i σ H' => Ex H5 H' ∧ ∃ v7 v8 v9 v10 v11 v12, σ = [some (.ref a), some (.int size), some (.ref p), some (.ref r), some (.int (one : Nat)), some (.int (two : Nat)), some (.int ((one ^^^ two : Nat) : Nat)), v7, v8, v9, v10, v11, v12]) (fun H6 e6 => ⟨e6, _, _, _, _, _, _, rfl⟩) (fun i σ H' h => h.1) ?_ ?_
        · rintro j x σ H6 hxn ⟨e6, v7, v8, v9, v10, v11, v12, rfl⟩
          have hxm := List.mem_of_getElem? hxn
          have hxs : x < size := (lot_ok hsl (by omega)).1.2.1 x hxm
          have hxb : (one ^^^ two).testBit x = true := by
            have := mem_lotF (b := one ^^^ two) (x := x) (by omega)
            rw [← this]; exact decide_eq_true hxm
          have e16 := e15.trans e6
          have r6 := e16 _ _ h1
          show tSeq _ _ _ [some (.ref a), some (.int size), some (.ref p), some (.ref r), some (.int (one : Nat)), some (.int (two : Nat)), some (.int ((one ^^^ two : Nat) : Nat)), some (.int (x : Nat)), v8, v9, v10, v11, v12] H6
          refine q_asg (v := .int ((1 <<< x : Nat) : Nat)) (ev_nc ev_c (ev_v 7) ⟨by decide, by omega⟩) fun H7 e7 => ?_
          have r7 := e7 _ _ r6
          refine s_when (b := decide (one < two) && (!decide (one ^^^ (1 <<< x) ∈ fm) && !decide (two ^^^ (1 <<< x) ∈ fm))) (et_and (et_test (ev_n (ev_v 4) (ev_v 5))) fun _ => et_and (et_not (et_B (ev_ix (sq_of r7) (ev_v 3) (ev_n (ev_v 4) (ev_v 8)) (insF_get (tog_sh h1l hxs))))) fun _ => et_not (et_B (ev_ix (sq_of r7) (ev_v 3) (ev_n (ev_v 5) (ev_v 8)) (insF_get (tog_sh h2l hxs))))) (fun hb H8 e8 => ?_) (fun hb H8 e8 => ⟨e6.trans (e7.trans e8), _, _, _, _, _, _, rfl⟩)
          obtain ⟨_, hb⟩ := Bool.and_eq_true_iff.mp hb
          obtain ⟨n1, n2⟩ := Bool.and_eq_true_iff.mp hb
          have n1 : one ^^^ (1 <<< x) ∉ fm := by simpa using n1
          have n2 : two ^^^ (1 <<< x) ∉ fm := by simpa using n2
          obtain ⟨y, y1, y2, y3, y4⟩ := common_ok ok hex h1m h2m hxb n1 n2
          have e18 := e16.trans (e7.trans e8)
          have f8 := (hf.ex e1).ex e18
          have i8 := (hin.ex e1).ex e18
          have hxb2 : (two ^^^ one).testBit x = true := by rw [Nat.xor_comm]; exact hxb
          have hcall : ∀ (f s : Nat) (iv jv : Nat) (σ : L2.St) H', Ex H8 H' → f ∈ fm → s ∈ fm → (f ^^^ s).testBit x = true → σ[0]? = some (some (.ref a)) → σ[iv]? = some (some (.int (f : Nat))) → σ[jv]? = some (some (.int (s : Nat))) → σ[7]? = some (some (.int (x : Nat))) → EvL (tCall (spPart CF) [] C8.E0 (tCons (tVar 0) (tCons (tCall spLot [] C8.E0 (tCons (tVar iv) tNil)) (tCons (tCall spLot [] C8.E0 (tCons (tVar jv) tNil)) (tCons (tVar 7) tNil))))) σ H' (nv (partF fm f s x)) := fun f s iv jv σ H' e hfm hsm hb a0 ai aj a7 H9 e9 Q9 q9 => by
            refine ⟨.ref a, a0, ?_⟩
            refine eu_call (xs := nv (lotF f)) (ea_cons (ev_v iv ai) ea_nil) (fun H5 e5 Q5 q5 E5 => ⟨_, rfl, q5⟩) H9 (Ex.refl _) _ fun w1 H10 hw1 e10 h10 => ?_
            refine eu_call (xs := nv (lotF s)) (ea_cons (ev_v jv aj) ea_nil) (fun H5 e5 Q5 q5 E5 => ⟨_, rfl, q5⟩) H10 (Ex.refl _) _ fun w2 H11 hw2 e11 h11 => ⟨.int (x : Nat), a7, ?_⟩
            have ee := e.trans (e9.trans (e10.trans e11))
            exact ⟨a, w1, w2, size, fm, f, s, x, rfl, f8.ex ee, i8.ex ee, ok, hfm, hsm, .inr (e11 _ _ h10), .inr h11, hxs, hb, fun p3 H12 hp3 e12 h12 => q9 p3 H12 (fresh_back (e10.trans e11) hp3) ((e10.trans e11).trans e12) h12⟩
          refine q_asgL (hcall one two 4 5 _ H8 (Ex.refl _) h1m h2m hxb rfl rfl rfl rfl) fun pa H9 hpa e9 h9 => ?_
          refine q_asgL (hcall two one 5 4 _ H9 e9 h2m h1m hxb2 rfl rfl rfl rfl) fun pb H10 hpb e10 h10 => ?_
          have r10 := (e18.trans (e9.trans e10)) _ _ h1
          have el := el_natsU (K := K) (tl := tCall spLot [] C8.E0 (tCons (tVar 6) tNil)) (te := tVar 12) (t := tAnd (tTest (tOp (rN0 fun a b => .bl (!decide (a = b))) (tVar 12) (tVar 7))) (tB (tOp (rIxN K) (tVar 3) (tOp (rN0 fun a b => .int ((a ^^^ b : Nat) : Int)) (tOp (rN0 fun a b => .int ((a ^^^ b : Nat) : Int)) (tVar 4) (tVar 8)) (tOp (rN (fun a b => a < 64 ∧ b < 64) fun a b => .int ((a <<< b : Nat) : Int)) (tC (.int ((1 : Nat) : Int))) (tVar 12)))))) (j := 12) (vs := [12]) (σ := [some (.ref a), some (.int size), some (.ref p), some (.ref r), some (.int (one : Nat)), some (.int (two : Nat)), some (.int ((one ^^^ two : Nat) : Nat)), some (.int (x : Nat)), some (.int ((1 <<< x : Nat) : Nat)), some (.ref pa), some (.ref pb), v11, v12]) (H := H10) (ns := lotF (one ^^^ two)) (fun y => !decide (y = x) && decide (((one ^^^ (1 <<< x)) ^^^ (1 <<< y)) ∈ fm)) (fun y => .int (y : Nat)) (eu_call (ea_cons (ev_v 6) ea_nil) (fun H5 e5 Q5 q5 E5 => ⟨_, rfl, q5⟩)) (by have := lot_len (one ^^^ two) (by omega); have := bits_size size (by omega) _ hsl; omega) (fun _ => rfl) (fun y H11 e11 hy => et_and (et_test (ev_n (ev_v 12) (ev_v 7))) fun _ => et_B (ev_ix (sq_of (e11 _ _ r10)) (ev_v 3) (ev_n (ev_n (ev_v 4) (ev_v 8)) (ev_nc ev_c (ev_v 12) ⟨by decide, by have := (lot_ok hsl (by omega)).1.2.1 y hy; omega⟩)) (insF_get (tog_sh (tog_sh h1l hxs) ((lot_ok hsl (by omega)).1.2.1 y hy))))) (fun y H11 e11 hy _ => ev_v 12)
          have ee : ((lotF (one ^^^ two)).filter fun y => !decide (y = x) && decide (((one ^^^ (1 <<< x)) ^^^ (1 <<< y)) ∈ fm)).map (fun y => V.int (y : Nat)) = nv (partF fm one two x) := by rw [part_eq n1]; rfl
          rw [ee] at el
          refine q_asgL el fun du H11 hdu e11 h11 => ?_
          have pa11 := e11 _ _ (e10 _ _ h9)
          have pb11 := e11 _ _ h10
          have pl : (partF fm one two x).length ≤ 12 := by
            unfold partF
            refine Nat.le_trans (List.length_filter_le _ _) ?_
            have := lot_len (one ^^^ two) (by omega); have := bits_size size (by omega) _ hsl; omega
          have ymem : ∀ f s, (f ^^^ s).testBit y = true → f ∈ fm → s ∈ fm → f ^^^ (1 <<< x) ∉ fm → (f ^^^ (1 <<< x)) ^^^ (1 <<< y) ∈ fm → y ∈ partF fm f s x := fun f s hb hfm hsm hn hm => by
            rw [part_eq hn]
            have hlt := bit_sz (xor_lt_sh (ok.lt f hfm) (ok.lt s hsm)) hb
            have := mem_lotF (b := f ^^^ s) (x := y) (by omega)
            exact List.mem_filter.mpr ⟨of_decide_eq_true (by rw [this]; exact hb), by rw [decide_eq_false y2, decide_eq_true hm]; rfl⟩
          have el2 := el_nats (K := K) (tl := tVar 9) (te := tVar 12) (t := tAnd (tTest (tOp (rIn K false) (tVar 12) (tVar 10))) (tTest (tOp (rN0 fun a b => .bl (!decide (a = b))) (tVar 12) (tVar 7)))) (j := 12) (vs := [12]) (a := pa) (ns := partF fm one two x) (σ := [some (.ref a), some (.int size), some (.ref p), some (.ref r), some (.int (one : Nat)), some (.int (two : Nat)), some (.int ((one ^^^ two : Nat) : Nat)), some (.int (x : Nat)), some (.int ((1 <<< x : Nat) : Nat)), some (.ref pa), some (.ref pb), some (.ref du), v12]) (H := H11) (fun z => decide (z ∈ partF fm two one x) && !decide (z = x)) (fun z => .int (z : Nat)) (ev_v 9) (sq_of pa11) (by omega) (fun _ => rfl) (fun z H12 e12 hz => et_and (et_is (et_test (ev_op (ev_v 12) (ev_v 10) (rv_isL (K := K) (sq_of (e12 _ _ pb11)) rfl (nv_flat _)))) inV_nat) fun _ => et_test (ev_n (ev_v 12) (ev_v 7))) (fun z H12 e12 hz _ => ev_v 12)
          refine s_when (b := false || decide (((partF fm one two x).filter fun z => decide (z ∈ partF fm two one x) && !decide (z = x)).length = 0)) (et_or (et_test (ev_neNats (ev_v 9) (ev_v 11) pa11 h11)) fun _ => et_test (ev_n (ev_is (ev_lenN (K := K) el2) (by rw [List.length_map])) ev_c)) (fun hb => ?_) (fun hb H12 e12 => ⟨e6.trans (e7.trans (e8.trans (e9.trans (e10.trans (e11.trans e12))))), _, _, _, _, _, _, rfl⟩)
          rw [Bool.false_or, decide_eq_true_eq] at hb
          have hm : y ∈ (partF fm one two x).filter fun z => decide (z ∈ partF fm two one x) && !decide (z = x) := List.mem_filter.mpr ⟨ymem one two y1 h1m h2m n1 y3, by rw [decide_eq_true (ymem two one (by rw [Nat.xor_comm]; exact y1) h2m h1m n2 y4), decide_eq_false y2]; rfl⟩
          rw [List.eq_nil_of_length_eq_zero hb] at hm
          cases hm
        · rintro σ H6 ⟨e6, v7, v8, v9, v10, v11, v12, rfl⟩
          exact ⟨e15.trans e6, _, _, _, _, _, _, _, _, rfl⟩
      · rintro σ H3 ⟨e3, v5, v6, v7, v8, v9, v10, v11, v12, rfl⟩
        exact ⟨e3, _, _, _, _, _, _, _, _, _, rfl⟩
    · rintro σ H2 ⟨e2, v4, v5, v6, v7, v8, v9, v10, v11, v12, rfl⟩
      exact s_ret ev_c fun H3 e3 => q H3 (e1.trans (e2.trans e3))
end
end W7
end
section
namespace W7
open PySem PySem.Spec PyProof.Rows L2 L3 Evl
open C8 (Cal pe_c Mak pe_mk Met pe_mt pe_mt0)
/-! ### marks: dicts of (x, y, sort) -/
def kM (x y s : Nat) : List Key := [Sum.inl (x : Int), Sum.inl (y : Int), Sum.inl (s : Int)]
theorem kM_inj {x y s a b c : Nat} (h : kM x y s = kM a b c) : x = a ∧ y = b ∧ s = c := by
  unfold kM at h
  injection h with h1 h
  injection h with h2 h
  injection h with h3 h
  injection h1 with h1
  injection h2 with h2
  injection h3 with h3
  omega
theorem kM_v (x y s : Nat) : (kM x y s).map kV = [.int (x : Nat), .int (y : Nat), .int (s : Nat)] := rfl
structure Mrk (ks : List (List Key × V)) (S : Nat → Nat → Nat → Prop) : Prop where
  nd : (ks.map (·.1)).Nodup
  tru : ∀ p ∈ ks, p.2 = .bl true
  mem : ∀ k, k ∈ ks.map (·.1) ↔ ∃ x y s, k = kM x y s ∧ S x y s
  bnd : ∀ x y s, S x y s → x < 5 ∧ y < 5 ∧ s < 2
theorem Mrk.iff {ks : List (List Key × V)} {S T : Nat → Nat → Nat → Prop} (h : Mrk ks S) (e : ∀ x y s, S x y s ↔ T x y s) : Mrk ks T :=
  ⟨h.nd, h.tru, fun k => (h.mem k).trans ⟨fun ⟨x, y, s, a, b⟩ => ⟨x, y, s, a, (e x y s).mp b⟩, fun ⟨x, y, s, a, b⟩ => ⟨x, y, s, a, (e x y s).mpr b⟩⟩, fun x y s hs => h.bnd x y s ((e x y s).mpr hs)⟩
theorem Mrk.nil : Mrk [] fun _ _ _ => False := ⟨List.nodup_nil, fun p hp => by simp at hp, fun k => by simp, fun x y s h => h.elim⟩
def allM : List (List Key) := (List.range 5).flatMap fun x => (List.range 5).flatMap fun y => (List.range 2).map fun s => kM x y s
theorem allM_nd : allM.Nodup := by decide +kernel
theorem Mrk.len {ks : List (List Key × V)} {S : Nat → Nat → Nat → Prop} (h : Mrk ks S) : ks.length ≤ 50 := by
  classical
  have hsub : ∀ k ∈ ks.map (·.1), k ∈ allM := fun k hk => by
    obtain ⟨x, y, s, rfl, hs⟩ := (h.mem k).mp hk
    obtain ⟨b1, b2, b3⟩ := h.bnd x y s hs
    exact List.mem_flatMap.mpr ⟨x, List.mem_range.mpr b1, List.mem_flatMap.mpr ⟨y, List.mem_range.mpr b2, List.mem_map.mpr ⟨s, List.mem_range.mpr b3, rfl⟩⟩⟩
  have h1 : (ks.map (·.1)).Perm (allM.filter fun k => decide (k ∈ ks.map (·.1))) := (List.perm_ext_iff_of_nodup h.nd (allM_nd.filter _)).mpr fun k => by
    rw [List.mem_filter, decide_eq_true_eq]
    exact ⟨fun hk => ⟨hsub k hk, hk⟩, fun hk => hk.2⟩
  have h2 := h1.length_eq
  have h3 := List.length_filter_le (fun k => decide (k ∈ ks.map (·.1))) allM
  have h4 : allM.length = 50 := by rfl
  rw [List.length_map] at h2
  omega
theorem Mrk.val {ks : List (List Key × V)} {S : Nat → Nat → Nat → Prop} (h : Mrk ks S) {x y s : Nat} (hs : S x y s) : valV ks (kM x y s) = some (.bl true) := by
  have h1 : kM x y s ∈ ks.map (·.1) := (h.mem _).mpr ⟨x, y, s, rfl, hs⟩
  cases hv : valV ks (kM x y s) with
  | none => exact absurd h1 (valV_not hv)
  | some v =>
    have : ∃ p ∈ ks, p.2 = v := by
      unfold valV at hv
      obtain ⟨p, hp, e⟩ := Option.map_eq_some_iff.mp hv
      exact ⟨p, List.mem_of_find?_eq_some hp, e⟩
    obtain ⟨p, hp, e⟩ := this
    rw [← e, h.tru p hp]
theorem Mrk.put {ks : List (List Key × V)} {S : Nat → Nat → Nat → Prop} (h : Mrk ks S) {x y s : Nat} (hx : x < 5) (hy : y < 5) (hs : s < 2) : Mrk (putK ks (kM x y s) (.bl true)) (fun a b c => S a b c ∨ (a = x ∧ b = y ∧ c = s)) := by
  have mem : ∀ k, k ∈ (putK ks (kM x y s) (.bl true)).map (·.1) ↔ k ∈ ks.map (·.1) ∨ k = kM x y s := fun k => by
    constructor
    · intro hk
      by_cases e : k = kM x y s
      · exact .inr e
      · left
        cases hv : valV (putK ks (kM x y s) (.bl true)) k with
        | none => exact absurd hk (valV_not hv)
        | some v =>
          rw [valV_put, if_neg e] at hv
          exact valV_in hv
    · intro hk
      have hsome : (valV (putK ks (kM x y s) (.bl true)) k) ≠ none := by
        rw [valV_put]
        by_cases e : k = kM x y s
        · rw [if_pos e]; simp
        · rw [if_neg e]
          rcases hk with hk | hk
          · exact fun hn => valV_not hn hk
          · exact absurd hk e
      cases hv : valV (putK ks (kM x y s) (.bl true)) k with
      | none => exact absurd hv hsome
      | some v => exact valV_in hv
  refine ⟨?_, fun p hp => ?_, fun k => ?_, fun a b c hh => ?_⟩
  · cases hv : valV ks (kM x y s) with
    | none => exact nd_putK _ h.nd hv
    | some v =>
      have e : (putK ks (kM x y s) (.bl true)).map (·.1) = ks.map (·.1) := by
        unfold putK
        have : (ks.any fun kv => decide (kv.1 = kM x y s)) = true := by rw [valV_any, hv]; rfl
        rw [if_pos this, List.map_map]
        refine List.map_congr_left fun p _ => ?_
        by_cases e : p.1 = kM x y s <;> simp [e]
      rw [e]; exact h.nd
  · unfold putK at hp
    split at hp
    · obtain ⟨p', hp', rfl⟩ := List.mem_map.mp hp
      by_cases e : p'.1 = kM x y s
      · rw [if_pos e]
      · rw [if_neg e]; exact h.tru p' hp'
    · rcases List.mem_append.mp hp with e | e
      · exact h.tru p e
      · have : p = (kM x y s, .bl true) := by simpa using e
        rw [this]
  · rw [mem k, h.mem k]
    constructor
    · rintro (⟨a, b, c, e, hs⟩ | e)
      · exact ⟨a, b, c, e, .inl hs⟩
      · exact ⟨x, y, s, e, .inr ⟨rfl, rfl, rfl⟩⟩
    · rintro ⟨a, b, c, e, hs | ⟨rfl, rfl, rfl⟩⟩
      · exact .inl ⟨a, b, c, e, hs⟩
      · exact .inr e
  · rcases hh with hh | ⟨rfl, rfl, rfl⟩
    · exact h.bnd a b c hh
    · exact ⟨hx, hy, hs⟩
/-- two dicts of the same marks tell the same -/
theorem Mrk.eq {ks ls : List (List Key × V)} {S : Nat → Nat → Nat → Prop} (h : Mrk ks S) (h2 : Mrk ls S) : ks.length = ls.length ∧ ∀ p ∈ ks, valV ls p.1 = some p.2 ∧ flatB p.2 = true := by
  constructor
  · have : (ks.map (·.1)).Perm (ls.map (·.1)) := (List.perm_ext_iff_of_nodup h.nd h2.nd).mpr fun k => (h.mem k).trans (h2.mem k).symm
    have := this.length_eq
    simpa using this
  · intro p hp
    obtain ⟨x, y, s, e, hs⟩ := (h.mem p.1).mp (List.mem_map.mpr ⟨p, hp, rfl⟩)
    rw [e, h2.val hs, h.tru p hp]
    exact ⟨rfl, rfl⟩
def srt (t x y : Nat) : Nat := if sameB t x y then 0 else 1
theorem srt_lt (t x y : Nat) : srt t x y < 2 := by unfold srt; split <;> omega
/-- the marks of lumps at t, and those before -/
def markS (t : Nat) (L : List (List Nat)) (S : Nat → Nat → Nat → Prop) (x y s : Nat) : Prop := S x y s ∨ ∃ l ∈ L, x ∈ l ∧ y ∈ l ∧ x < y ∧ s = srt t x y
section
variable {P : Program} {w : World} {K : PySem.W.Frag} {mg : Str → Option Value} {base : Heap} {f : Addr} {fd : FuncData} {CF CA : Addr}
def spMarked : Sp := fun vs H Q _ => ∃ (d p : Addr) (t : Nat) (ks : List (List Key × V)) (S : Nat → Nat → Nat → Prop) (rs : List V) (L : List (List Nat)), vs = [.ref d, .int t, .ref p] ∧ H d = some (.dT ks) ∧ Mrk ks S ∧ H p = some (.tup rs) ∧ Lots H rs L ∧ (∀ l ∈ L, ∀ v ∈ l, v < 5) ∧
  ∀ H' ks', XB d H H' → H' d = some (.dT ks') → Mrk ks' (markS t L S) → Q (.ref d) H'
theorem Lots.xd {H H' : Hp} {rs : List V} {L : List (List Nat)} {d : Addr} {ks : List (List Key × V)} (h : Lots H rs L) (hd : H d = some (.dT ks)) (b : XB d H H') : Lots H' rs L := ⟨h.1, fun i r ns u v => (h.2 i r ns u v).elim fun t z => ⟨t, z.1, b t _ (fun e => by rw [e, hd] at z; cases z.2) z.2⟩⟩
theorem sc_law_marked : FnScope ["_law_marks", "_law_lot_here", "_law_lumps", "_law_lump", "_law_x", "_law_y"] ["_law_marks", "_law_lot_here", "_law_lumps"] (defScope (top 83)) := ⟨rfl, rfl, rfl, by decide +kernel, rfl, by decide +kernel, by decide +kernel⟩
theorem c_law_marked (F : FnP K "_law_marked" (top 83) f fd) (g : mg "_law_marked" = some (.ref f)) (B : Bi mg) : Cal P w K mg base 1 "_law_marked" spMarked [] := by
  refine mkCal F g sc_law_marked (fun _ _ _ _ _ _ us hl => match us, hl with | [_, _, _], _ => rfl) (fun vs H Q E h => ?_) (fun cdv A outer s H vs Q E hr h => ?_)
  · obtain ⟨d, p, t, ks, S, rs, L, rfl, _⟩ := h
    rfl
  · obtain ⟨d, p, t, ks, S, rs, L, rfl, hd, hS, hp, hL, hb, q⟩ := h
    have hpd : p ≠ d := fun e => by rw [e, hd] at hp; cases hp
    have x0 : XB d H H := fun b o _ h => h
    refine ⟨_, (pss_cons (ps_for PassesOwn.never rfl (pi_tup (pv 2)) (pg_name (i := 3) sc_law_marked.nd rfl (by first | exact Or.inl rfl | exact Or.inr rfl)) (pss_one (ps_for PassesOwn.never rfl (pi_tup (pv 3)) (pg_name (i := 4) sc_law_marked.nd rfl (by first | exact Or.inl rfl | exact Or.inr rfl)) (pss_one (ps_for PassesOwn.never rfl (pi_tup (pv 3)) (pg_name (i := 5) sc_law_marked.nd rfl (by first | exact Or.inl rfl | exact Or.inr rfl)) (pss_one (ps_if (pt_cmpR on_lt (pv 4) (pv 5) (nomark _)) (pss_one (ps_if (pt_cmpR on_eq (pe_op on_and (pe_op on_shr (pv 1) (pv 4)) (pe_nat 1 pe_int)) (pe_op on_and (pe_op on_shr (pv 1) (pv 5)) (pe_nat 1 pe_int)) (nomark _)) (pss_one (ps_dput (hu_of hr) (pv 0) (pe_tup (pa_cons (pv 4) (pa_cons (pv 5) (pa_cons (pe_nat 0 pe_int) pa_nil)))) pe_bl rfl)) (pss_one (ps_dput (hu_of hr) (pv 0) (pe_tup (pa_cons (pv 4) (pa_cons (pv 5) (pa_cons (pe_nat 1 pe_int) pa_nil)))) pe_bl rfl)))) pss_nil))))))) (pss_one (ps_ret (pv 0)))), ?_⟩
    refine q_forT (xs := rs) (ev_v 2) (st_of hp) (fun i σ H' => XB d H H' ∧ (∃ ks', H' d = some (.dT ks') ∧ ∃ S', Mrk ks' S' ∧ (∀ x y s, markS t (L.take i) S x y s → S' x y s) ∧ ∀ x y s, S' x y s → markS t L S x y s) ∧ ∃ v3 v4 v5, σ = [some (.ref d), some (.int t), some (.ref p), v3, v4, v5]) (fun H2 e2 => ⟨x0.ex e2, ⟨ks, e2 _ _ hd, S, hS, fun x y s h => ?_, fun x y s h => .inl h⟩, _, _, _, rfl⟩) (fun i σ H' _ h => st_of (h.1 _ _ hpd hp)) ?_ ?_
    · rcases h with h | ⟨l, hl, _⟩
      · exact h
      · simp at hl
    · rintro i r σ H2 hri ⟨x2, ⟨ks2, d2, S2, m2, lo2, up2⟩, v3, v4, v5, rfl⟩
      have hlen := hL.1
      have hi : i < L.length := by rw [← hlen]; exact (List.getElem?_eq_some_iff.mp hri).1
      have hn : L[i]? = some L[i] := List.getElem?_eq_some_iff.mpr ⟨hi, rfl⟩
      obtain ⟨b, rfl, hbt⟩ := hL.2 i r L[i] hri hn
      have hmem := List.getElem_mem hi
      have htk : L.take (i + 1) = L.take i ++ [L[i]] := by rw [List.take_add_one, hn]; rfl
      generalize L[i] = lot at hbt hmem htk hn
      have hbd : b ≠ d := fun e => by rw [e, hd] at hbt; cases hbt
      have hb2 := x2 _ _ hbd hbt
      show tFor _ _ _ _ [some (.ref d), some (.int t), some (.ref p), some (.ref b), v4, v5] H2
      refine s_forT (xs := nv lot) (ev_v 3) (st_of hb2) (fun j σ H' => XB d H H' ∧ (∃ ks', H' d = some (.dT ks') ∧ ∃ S', Mrk ks' S' ∧ (∀ x y s, markS t (L.take i) S x y s → S' x y s) ∧ (∀ x ∈ lot.take j, ∀ y ∈ lot, x < y → S' x y (srt t x y)) ∧ ∀ x y s, S' x y s → markS t L S x y s) ∧ ∃ v4 v5, σ = [some (.ref d), some (.int t), some (.ref p), some (.ref b), v4, v5]) (fun H3 e3 => ⟨x2.ex e3, ⟨ks2, e3 _ _ d2, S2, m2, lo2, fun x hx => by simp at hx, up2⟩, _, _, rfl⟩) (fun j σ H' _ h => st_of (h.1 _ _ hbd hbt)) ?_ ?_
      · rintro j vx σ H3 hxj ⟨x3, ⟨ks3, d3, S3, m3, lo3, ro3, up3⟩, v4, v5, rfl⟩
        obtain ⟨x, hx, rfl⟩ := nv_get hxj
        have hxl := List.mem_of_getElem? hx
        show tFor _ _ _ _ [some (.ref d), some (.int t), some (.ref p), some (.ref b), some (.int (x : Nat)), v5] H3
        refine s_forT (xs := nv lot) (ev_v 3) (st_of (x3 _ _ hbd hbt)) (fun k σ H' => XB d H H' ∧ (∃ ks', H' d = some (.dT ks') ∧ ∃ S', Mrk ks' S' ∧ (∀ a b c, S3 a b c → S' a b c) ∧ (∀ y ∈ lot.take k, x < y → S' x y (srt t x y)) ∧ ∀ x y s, S' x y s → markS t L S x y s) ∧ ∃ v5, σ = [some (.ref d), some (.int t), some (.ref p), some (.ref b), some (.int (x : Nat)), v5]) (fun H4 e4 => ⟨x3.ex e4, ⟨ks3, e4 _ _ d3, S3, m3, fun a b c h => h, fun y hy => by simp at hy, up3⟩, _, rfl⟩) (fun k σ H' _ h => st_of (h.1 _ _ hbd hbt)) ?_ ?_
        · rintro k vy σ H4 hyk ⟨x4, ⟨ks4, d4, S4, m4, lo4, ro4, up4⟩, v5, rfl⟩
          obtain ⟨y, hy, rfl⟩ := nv_get hyk
          have hyl := List.mem_of_getElem? hy
          have hx5 := hb lot hmem x hxl
          have hy5 := hb lot hmem y hyl
          have htk2 : lot.take (k + 1) = lot.take k ++ [y] := by rw [List.take_add_one, hy]; rfl
          show tIfS _ _ _ _ [some (.ref d), some (.int t), some (.ref p), some (.ref b), some (.int (x : Nat)), some (.int (y : Nat))] H4
          have fin : ∀ (c : Nat) H5, c = srt t x y → x < y → Ex H4 H5 → XB d H (upd H5 d (.dT (putK ks4 (kM x y c) (.bl true)))) ∧ (∃ ks', (upd H5 d (.dT (putK ks4 (kM x y c) (.bl true)))) d = some (.dT ks') ∧ ∃ S', Mrk ks' S' ∧ (∀ a b c, S3 a b c → S' a b c) ∧ (∀ y ∈ lot.take (k + 1), x < y → S' x y (srt t x y)) ∧ ∀ x y s, S' x y s → markS t L S x y s) := fun c H5 hc hxy e5 => by
            refine ⟨(x4.ex e5).up, _, upd_same, _, m4.put hx5 hy5 (by rw [hc]; exact srt_lt t x y), fun a b c h => .inl (lo4 a b c h), fun z hz hxz => ?_, fun a b e h => ?_⟩
            · rw [htk2, List.mem_append] at hz
              rcases hz with hz | hz
              · exact .inl (ro4 z hz hxz)
              · have : z = y := by simpa using hz
                subst this
                exact .inr ⟨rfl, rfl, hc.symm⟩
            · rcases h with h | ⟨rfl, rfl, rfl⟩
              · exact up4 a b e h
              · exact .inr ⟨lot, hmem, hxl, hyl, hxy, hc⟩
          refine s_when (b := decide (x < y)) (et_test (ev_n (ev_v 4) (ev_v 5))) (fun hxy H5 e5 => ?_) (fun hxy H5 e5 => ⟨x4.ex e5, ⟨ks4, e5 _ _ d4, S4, m4, lo4, fun z hz hxz => ?_, up4⟩, _, rfl⟩)
          · have hxy := of_decide_eq_true hxy
            refine s_if (b := sameB t x y) (et_test (ev_n (ev_n (ev_n (ev_v 1) (ev_v 4)) ev_c) (ev_n (ev_n (ev_v 1) (ev_v 5)) ev_c))) (fun hs H6 e6 => ?_) (fun hs H6 e6 => ?_)
            · refine ⟨.ref d, rfl, ?_⟩
              refine eu_tup (vs := [.int (x : Nat), .int (y : Nat), .int ((0 : Nat) : Int)]) (ea_cons (ev_v 4) (ea_cons (ev_v 5) (ea_cons ev_c ea_nil))) (by show 3 ≤ 100000; decide) H6 (Ex.refl _) _ fun T H7 hT e7 h7 => ⟨d, _, rfl, DPut.t (k := kM x y 0) ((e5.trans (e6.trans e7)) _ _ d4) (by rw [kM_v]; exact h7) (sz_lt (by have := m4.len; omega)), ?_⟩
              obtain ⟨f1, f2⟩ := fin 0 H7 (by unfold srt; rw [hs]; rfl) hxy (e5.trans (e6.trans e7))
              exact ⟨f1, f2, _, rfl⟩
            · refine ⟨.ref d, rfl, ?_⟩
              refine eu_tup (vs := [.int (x : Nat), .int (y : Nat), .int ((1 : Nat) : Int)]) (ea_cons (ev_v 4) (ea_cons (ev_v 5) (ea_cons ev_c ea_nil))) (by show 3 ≤ 100000; decide) H6 (Ex.refl _) _ fun T H7 hT e7 h7 => ⟨d, _, rfl, DPut.t (k := kM x y 1) ((e5.trans (e6.trans e7)) _ _ d4) (by rw [kM_v]; exact h7) (sz_lt (by have := m4.len; omega)), ?_⟩
              obtain ⟨f1, f2⟩ := fin 1 H7 (by unfold srt; rw [hs]; rfl) hxy (e5.trans (e6.trans e7))
              exact ⟨f1, f2, _, rfl⟩
          · rw [htk2, List.mem_append] at hz
            rcases hz with hz | hz
            · exact ro4 z hz hxz
            · have : z = y := by simpa using hz
              subst this
              exact absurd hxz (of_decide_eq_false hxy)
        · rintro σ H4 ⟨x4, ⟨ks4, d4, S4, m4, lo4, ro4, up4⟩, v5, rfl⟩
          have htk3 : lot.take (j + 1) = lot.take j ++ [x] := by rw [List.take_add_one, hx]; rfl
          rw [nv_len, List.take_length] at ro4
          refine ⟨x4, ⟨ks4, d4, S4, m4, fun a b c h => lo4 a b c (lo3 a b c h), fun z hz y hy hzy => ?_, up4⟩, _, _, rfl⟩
          rw [htk3, List.mem_append] at hz
          rcases hz with hz | hz
          · exact lo4 _ _ _ (ro3 z hz y hy hzy)
          · have : z = x := by simpa using hz
            subst this
            exact ro4 y hy hzy
      · rintro σ H3 ⟨x3, ⟨ks3, d3, S3, m3, lo3, ro3, up3⟩, v4, v5, rfl⟩
        rw [nv_len, List.take_length] at ro3
        refine ⟨x3, ⟨ks3, d3, S3, m3, fun x y s h => ?_, up3⟩, _, _, _, rfl⟩
        rcases h with h | ⟨l, hl, a1, a2, a3, a4⟩
        · exact lo3 x y s (.inl h)
        · rw [htk, List.mem_append] at hl
          rcases hl with hl | hl
          · exact lo3 x y s (.inr ⟨l, hl, a1, a2, a3, a4⟩)
          · have : l = lot := by simpa using hl
            subst this
            rw [a4]
            exact ro3 x a1 y a2 a3
    · rintro σ H2 ⟨x2, ⟨ks2, d2, S2, m2, lo2, up2⟩, v3, v4, v5, rfl⟩
      rw [hL.1, List.take_length] at lo2
      have m3 := m2.iff (T := markS t L S) fun x y s => ⟨up2 x y s, lo2 x y s⟩
      exact s_ret (ev_v 0) fun H3 e3 => q H3 ks2 (x2.ex e3) (e3 _ _ d2) m3
end
end W7
end
section
namespace W7
open PySem PySem.Spec PyProof.Rows L2 L3 Evl
open C8 (Cal pe_c Mak pe_mk Met pe_mt pe_mt0)
section
variable {X : Cx} {K : PySem.W.Frag}
theorem op_inDK (hK : X.K = K) (hu : X.A.units + 65 < cLine) : OpR X (compareOp .In) (rInD K) := hK ▸ op_inD hu
theorem op_catAK (hK : X.K = K) : OpR X (binaryOp .Add) (rCatA K) := hK ▸ op_catA
end
section
variable {K : PySem.W.Frag} {σ : L2.St} {H : Hp} {ta tb te tl : TE} {v : V} {tt : TT} {D : Ends} {tz : TS} {CF CA : Addr}
theorem q_At {i j : Nat} {a : Addr} {size : Nat} {fm : List Nat} {t : Nat} (hf : FamAt H CF a size fm) (G : Gat size fm t) (hl : EvU tl σ H (nv (lotF t))) (k : ∀ x H1, H x = none → Ex H H1 → AtAt H1 CF CA x size fm t → tz D (σ.set j (some (.ref x))) H1) (hσ : σ[i]? = some (some (.ref a)) := by rfl) :
    tSeq (tAsg (tMake CA (spAt CF CA) [] C8.E0 (tCons (tVar i) (tCons tl tNil))) (gName j)) tz D σ H := by
  refine ⟨.ref a, hσ, hl H (Ex.refl H) _ fun p H2 hp e2 h2 x dx hx hdx hne => ?_⟩
  have e3 : Ex H2 (upd (upd H2 dx (.own x)) x (.ins CA dx [])) := fun b o h => by
    rw [upd_ne (fun e => by rw [e, hx] at h; cases h), upd_ne (fun e => by rw [e, hdx] at h; cases h)]; exact h
  have hf2 := hf.ex e2
  have hax : a ≠ x := fun e => by
    obtain ⟨dx2, fs, tl, rs, h1, _⟩ := hf2
    rw [e, hx] at h1; cases h1
  refine ⟨x, a, p, dx, size, fm, t, rfl, hax, upd_same, hf2.ex e3, G.ok, rows_ok G.ok.lt G.ex, G.t, .inr (e3 _ _ h2), fun H4 xb at4 => ⟨rfl, ?_⟩⟩
  have e4 : Ex H2 H4 := fun b o h => xb b o (fun e => by rw [e, hx] at h; cases h) (e3 _ _ h)
  exact k x H4 (fresh_back e2 hx) (e2.trans e4) at4
theorem q_lumps {i j : Nat} {b : Addr} {size : Nat} {fm : List Nat} {t : Nat} {E : XK} (hA : AtAt H CF CA b size fm t) (ok : FamOk size fm) (ht : t < 1 <<< size) (k : ∀ p rs H1, H p = none → Ex H H1 → H1 p = some (.tup rs) → Lots H1 rs (lumpsF size fm t) → tz D (σ.set j (some (.ref p))) H1) (hi : σ[i]? = some (some (.ref b)) := by rfl) :
    tSeq (tAsg (tMeth CA "lumps" (spAtL CF CA fun size fm t => RetLotsU (lumpsF size fm t)) [] E (tVar i) tNil) (gName j)) tz D σ H := by
  obtain ⟨a, dx, fs, bp, rs, bm, g1, g2, g3, g4, g5, g6, g7, g8, g9⟩ := id hA
  exact ⟨.ref b, hi, b, dx, fs, rfl, g1, g5.2.2.2.2.2.2.2.2, b, size, fm, t, rfl, hA, ok, ht, k⟩
theorem eu_coloops {i : Nat} {b : Addr} {size : Nat} {fm : List Nat} {t : Nat} {E : XK} (hA : AtAt H CF CA b size fm t) (ok : FamOk size fm) (ht : t < 1 <<< size) (hi : σ[i]? = some (some (.ref b)) := by rfl) : EvU (tMeth CA "coloops" (spAtL CF CA fun size fm t => RetU (nv (coF size fm t))) [] E (tVar i) tNil) σ H (nv (coF size fm t)) := fun H1 e Q q => by
  obtain ⟨a, dx, fs, bp, rs, bm, g1, g2, g3, g4, g5, g6, g7, g8, g9⟩ := id (hA.ex e)
  exact ⟨.ref b, hi, b, dx, fs, rfl, g1, g5.2.2.2.2.2.2.1, b, size, fm, t, rfl, hA.ex e, ok, ht, q⟩
/-- x in s + t, s and t new tuples -/
theorem ev_inCat {x : Nat} {xs ys : List Nat} {tc : TE} (hx : Ev tc σ H (.int (x : Nat))) (ha : EvU ta σ H (nv xs)) (hb : EvU tb σ H (nv ys)) (hz : xs.length + ys.length ≤ 1000) : Ev (tOp (rIn K false) tc (tOp (rCatA K) ta tb)) σ H (.bl (decide (x ∈ xs ++ ys))) := fun H1 e Q q =>
  hx H1 e _ fun H2 e2 => ha H2 (e.trans e2) _ fun p H3 hp e3 h3 => hb H3 ((e.trans e2).trans e3) _ fun p2 H4 hp2 e4 h4 => by
    have key : ∀ (r : Addr) H5 (zs : List Nat), Ex H4 H5 → SqT K H5 r (nv zs) → zs = xs ++ ys → rIn K false (.int (x : Nat)) (.ref r) H5 Q := fun r H5 zs e5 h5 ez => by
      have h := rv_isT (K := K) h5 (rfl : flatV (.int (x : Nat)) = true) (nv_flat zs) H5 (Ex.refl _) Q
      rw [inV_nat, ez] at h
      exact h (fun H6 e6 => q H6 (e2.trans (e3.trans (e4.trans (e5.trans e6)))))
    refine ⟨p, p2, nv xs, nv ys, rfl, rfl, st_of (e4 _ _ h3), st_of h4, sz_of (by rw [nv_len, nv_len]; omega), fun hn => ?_, fun _ hn => ?_, fun _ _ r hr => ?_⟩
    · have : xs = [] := List.map_eq_nil_iff.mp hn
      exact key p2 H4 ys (Ex.refl _) (st_of h4) (by rw [this]; rfl)
    · have : ys = [] := List.map_eq_nil_iff.mp hn
      exact key p H4 xs (Ex.refl _) (st_of (e4 _ _ h3)) (by rw [this, List.append_nil])
    · refine key r _ (xs ++ ys) (Ex.new hr) (st_of ?_) rfl
      rw [upd_same]
      unfold nv
      rw [List.map_append]
def inB (L : List (List Nat)) (ns : List Nat) : Bool := (L.map rowD).any fun z => PyData.eqv z (rowD ns)
theorem in_yes {L : List (List Nat)} {ns : List Nat} (h : ns ∈ L) : inB L ns = true := by
  unfold inB
  rw [List.any_eq_true]
  exact ⟨rowD ns, List.mem_map.mpr ⟨ns, h, rfl⟩, eqv_self (shaped_row ns)⟩
theorem et_inLots {ns : List Nat} {L : List (List Nat)} {a : Addr} {rs : List V} (ha : EvU ta σ H (nv ns)) (hb : Ev tb σ H (.ref a)) (h : H a = some (.lst rs)) (hL : Lots H rs L) : EvT (tTest (tOp (rInD K) ta tb)) σ H (inB L ns) := et_test fun H1 e Q q =>
  ha H1 e _ fun p H2 hp e2 h2 => hb H2 (e.trans e2) _ fun H3 e3 => ⟨_, _, .tup (st_of (e3 _ _ h2)) (dp_nats ns), .lst (sq_of ((e.trans e2).trans e3 _ _ h)) (dp_lots (hL.ex ((e.trans e2).trans e3))), shaped_row ns, (shaped_lots L).2, q H3 (e2.trans e3)⟩
theorem el_listT {p : Addr} {xs : List V} (ha : Ev ta σ H (.ref p)) (h : SqT K H p xs) : EvL (tCB (rListS K) (tCons ta tNil)) σ H xs := by
  intro H1 e Q q
  apply ha H1 e
  intro H2 later
  refine ⟨p, xs, rfl, Or.inr (ex_t (e.trans later) h), fun l new => ?_⟩
  exact q l _ (fresh_back later new) (later.trans (Ex.new new)) upd_same
theorem ev_lenTup {p : Addr} {xs : List V} (ha : Ev ta σ H (.ref p)) (h : SqT K H p xs) : Ev (tCB (rLenS K) (tCons ta tNil)) σ H (.int (xs.length : Int)) := by
  intro H1 e Q q
  apply ha H1 e
  exact fun H2 later => ⟨p, xs, rfl, Or.inr (ex_t (e.trans later) h), q H2 later⟩
theorem el_listRg {n : Nat} (ha : Ev ta σ H (.int (n : Nat))) (hn : n ≤ 1000) : EvL (tLstRg (tRg1 ta)) σ H (nv (List.range n)) := fun H1 e Q q => ha H1 e _ fun H2 e2 => ⟨(n : Nat), rfl, ⟨by omega, by omega, by omega, by omega, by omega⟩, fun c hc => by
  refine q c _ (fresh_back e2 hc) (e2.trans (Ex.new hc)) ?_
  rw [upd_same]
  unfold rgV nv
  have e : ((n : Int) - 0).toNat = n := by omega
  rw [e]
  exact congrArg some (congrArg HO.lst (List.map_congr_left fun i _ => by simp))⟩
/-- sorted(xs) of what is a permutation of a row -/
theorem el_sortV {ns ms : List Nat} {a : Addr} (ha : Ev ta σ H (.ref a)) (h : SqL K H a (nv ns)) (hp : ns.Perm ms) (hs : ms.Pairwise (· ≤ ·)) : EvL (tCB (rSortedI K) (tCons ta tNil)) σ H (nv ms) := fun H1 e Q q => ha H1 e _ fun H2 e2 => by
  have h2 : SqL K H2 a (nv ns) := ex_l (e.trans e2) h
  refine ⟨a, ns.map fun n => ((n : Nat) : Int), rfl, by rw [List.map_map]; exact h2, fun is l h3 h4 hl => ?_⟩
  have he : is = ms.map fun n => ((n : Nat) : Int) := by
    refine (h3.trans (hp.map _)).eq_of_pairwise (fun a b _ _ x y => by omega) h4 ?_
    rw [List.pairwise_map]
    exact hs.imp fun h => by omega
  refine q l _ (fresh_back e2 hl) (e2.trans (Ex.new hl)) ?_
  rw [upd_same, he]
  unfold nv
  rw [List.map_map]; rfl
theorem ev_neNew {ns : List Nat} (ha : EvL ta σ H (nv ns)) (hb : EvL tb σ H (nv ns)) : Ev (tOp (rNeD K) ta tb) σ H (.bl false) := ev_opLL ha hb fun p q H1 h1 h2 e => fun H2 e2 Q k => by
  refine ⟨_, _, .lst (sq_of (e2 _ _ h1)) (dp_nats ns), .lst (sq_of (e2 _ _ h2)) (dp_nats ns), shaped_nats ns, shaped_nats ns, ?_⟩
  rw [eqv_self (shaped_nats ns)]
  exact k H2 (Ex.refl _)
end
/-- all but two dicts -/
def X2 (d1 d2 : Addr) (H H' : Hp) : Prop := ∀ b o, b ≠ d1 → b ≠ d2 → H b = some o → H' b = some o
theorem X2.ex {d1 d2 : Addr} {H H1 H2 : Hp} (a : X2 d1 d2 H H1) (e : Ex H1 H2) : X2 d1 d2 H H2 := fun b o n m h => e _ _ (a b o n m h)
theorem X2.x1 {d1 d2 : Addr} {H H1 H2 : Hp} (a : X2 d1 d2 H H1) (e : XB d1 H1 H2) : X2 d1 d2 H H2 := fun b o n m h => e _ _ n (a b o n m h)
theorem X2.x2 {d1 d2 : Addr} {H H1 H2 : Hp} (a : X2 d1 d2 H H1) (e : XB d2 H1 H2) : X2 d1 d2 H H2 := fun b o n m h => e _ _ m (a b o n m h)
theorem FamAt.x2 {d1 d2 a CF : Addr} {H H' : Hp} {size : Nat} {fm : List Nat} {k1 k2 : List (List Key × V)} (h : FamAt H CF a size fm) (h1 : H d1 = some (.dT k1)) (h2 : H d2 = some (.dT k2)) (b : X2 d1 d2 H H') : FamAt H' CF a size fm := by
  obtain ⟨dx, fs, tl, rs, g1, g2, g3, g4, g5, g6⟩ := h
  refine ⟨dx, fs, tl, rs, b _ _ (fun e => by rw [e, h1] at g1; cases g1) (fun e => by rw [e, h2] at g1; cases g1) g1, g2, g3, g4, b _ _ (fun e => by rw [e, h1] at g5; cases g5) (fun e => by rw [e, h2] at g5; cases g5) g5, g6.1, fun i r ns u v => ?_⟩
  obtain ⟨t, e, z⟩ := g6.2 i r ns u v
  exact ⟨t, e, b _ _ (fun e => by rw [e, h1] at z; cases z) (fun e => by rw [e, h2] at z; cases z) z⟩
theorem Lots.x2 {d1 d2 : Addr} {H H' : Hp} {rs : List V} {L : List (List Nat)} {k1 k2 : List (List Key × V)} (h : Lots H rs L) (h1 : H d1 = some (.dT k1)) (h2 : H d2 = some (.dT k2)) (b : X2 d1 d2 H H') : Lots H' rs L := ⟨h.1, fun i r ns u v => by
  obtain ⟨t, e, z⟩ := h.2 i r ns u v
  exact ⟨t, e, b _ _ (fun e => by rw [e, h1] at z; cases z) (fun e => by rw [e, h2] at z; cases z) z⟩⟩
theorem Tups.x2 {d1 d2 : Addr} {H H' : Hp} {rs : List V} {L : List (List V)} {k1 k2 : List (List Key × V)} (h : Tups H rs L) (h1 : H d1 = some (.dT k1)) (h2 : H d2 = some (.dT k2)) (b : X2 d1 d2 H H') : Tups H' rs L := ⟨h.1, fun i r ns u v => by
  obtain ⟨t, e, z⟩ := h.2 i r ns u v
  exact ⟨t, e, b _ _ (fun e => by rw [e, h1] at z; cases z) (fun e => by rw [e, h2] at z; cases z) z⟩⟩
/-- the marks that are due -/
def dueS (size : Nat) (fm : List Nat) (x y s : Nat) : Prop := x < y ∧ y < size ∧ ((s = 0 ∧ rivB size fm x y = true) ∨ (s = 1 ∧ mateB size fm x y = true))
theorem due_iff {size : Nat} {fm : List Nat} {x y s : Nat} : dueS size fm x y s ↔ x < y ∧ y < size ∧ ∃ m, m < 1 <<< size ∧ bondB fm m x y = true ∧ s = srt m x y := by
  unfold dueS rivB mateB srt
  constructor
  · rintro ⟨h1, h2, ⟨rfl, h⟩ | ⟨rfl, h⟩⟩
    · obtain ⟨m, a, b⟩ := List.any_eq_true.mp h
      obtain ⟨b1, b2⟩ := Bool.and_eq_true_iff.mp b
      exact ⟨h1, h2, m, List.mem_range.mp a, b1, by rw [b2]; rfl⟩
    · obtain ⟨m, a, b⟩ := List.any_eq_true.mp h
      obtain ⟨b1, b2⟩ := Bool.and_eq_true_iff.mp b
      have b2 : sameB m x y = false := by simpa using b2
      exact ⟨h1, h2, m, List.mem_range.mp a, b1, by rw [b2]; rfl⟩
  · rintro ⟨h1, h2, m, hm, hb, rfl⟩
    refine ⟨h1, h2, ?_⟩
    cases hs : sameB m x y with
    | true => exact .inl ⟨by rfl, List.any_eq_true.mpr ⟨m, List.mem_range.mpr hm, by rw [hb, hs]; rfl⟩⟩
    | false => exact .inr ⟨by rfl, List.any_eq_true.mpr ⟨m, List.mem_range.mpr hm, by rw [hb, hs]; rfl⟩⟩
/-- what lumps mark is due -/
theorem lump_due {size : Nat} {fm : List Nat} {t : Nat} (G : Gat size fm t) {l : List Nat} (hl : l ∈ lumpsF size fm t) {x y : Nat} (hx : x ∈ l) (hy : y ∈ l) (hxy : x < y) : dueS size fm x y (srt t x y) := by
  obtain ⟨f1, f2, _⟩ := lump_facts G
  have hlt : ∀ v ∈ l, v < size := fun v hv => List.mem_range.mp (f1.mem_iff.mp (List.mem_flatten.mpr ⟨l, hl, hv⟩))
  rcases f2 l hl x hx y hy with e | h
  · omega
  · obtain ⟨m, hm, hb, hs⟩ := rel_bond G.ok G.t (hlt x hx) (hlt y hy) (by omega) h
    exact due_iff.mpr ⟨hxy, hlt y hy, m, hm, hb, by unfold srt; rw [hs]⟩
theorem due_lump {size : Nat} {fm : List Nat} (ok : FamOk size fm) (hex : EX (· ∈ fm)) {x y s : Nat} (h : dueS size fm x y s) : ∃ t, t < 1 <<< size ∧ topB size fm t = true ∧ s = srt t x y ∧ ∃ l ∈ lumpsF size fm t, x ∈ l ∧ y ∈ l ∧ x < y := by
  obtain ⟨h1, h2, m, hm, hb, rfl⟩ := due_iff.mp h
  have hx : x < size := by omega
  obtain ⟨p, p1, p2, p3, p4⟩ := peak_of ok hx h2 (by omega) _ m hm (Nat.le_refl _) (bond_rel ok hm hx h2 (by omega) hb)
  obtain ⟨l, a, b, c⟩ := (lump_facts ⟨ok, hex, p1⟩).2.2 x hx y h2 (by omega) p3
  exact ⟨p, p1, p2, by unfold srt; rw [p4], l, a, b, c, h1⟩
theorem due_bnd {size : Nat} {fm : List Nat} (ok : FamOk size fm) {x y s : Nat} (h : dueS size fm x y s) : x < 5 ∧ y < 5 ∧ s < 2 := by
  obtain ⟨h1, h2, h3⟩ := h
  have := ok.s5
  rcases h3 with ⟨rfl, _⟩ | ⟨rfl, _⟩ <;> omega
/-- no loop and no coloop in a lump of two or more -/
theorem lump_free {size : Nat} {fm : List Nat} {t : Nat} (G : Gat size fm t) {l : List Nat} (hl : l ∈ lumpsF size fm t) (hn : l.Nodup) (h2 : 1 < l.length) {x : Nat} (hx : x ∈ l) : x ∉ loopF size fm t ++ coF size fm t := by
  obtain ⟨f1, f2, _⟩ := lump_facts G
  obtain ⟨y, hy, hxy⟩ : ∃ y ∈ l, x ≠ y := by
    match l, h2, hn, hx with
    | a :: b :: r, _, hn, hx =>
      have hab : a ≠ b := fun e => by simp [e] at hn
      by_cases e : x = a
      · exact ⟨b, by simp, by rw [e]; exact hab⟩
      · exact ⟨a, by simp, e⟩
  have r1 := (f2 l hl x hx y hy).resolve_left hxy
  have r2 := (f2 l hl y hy x hx).resolve_left (fun e => hxy e.symm)
  obtain ⟨b, hb, b1, _⟩ := rel_iff.mp r1
  obtain ⟨c, hc, _, c2, _⟩ := rel_iff.mp r2
  intro h
  obtain h | h := List.mem_append.mp h
  · have := (List.mem_filter.mp h).2
    have h3 : heldB fm t x = true := List.any_eq_true.mpr ⟨b, hb, b1⟩
    rw [h3] at this
    cases this
  · have := List.all_eq_true.mp (List.mem_filter.mp h).2 c hc
    rw [c2] at this
    cases this
end W7
end
section
namespace W7
open PySem PySem.Spec PyProof.Rows L2 L3 Evl
open C8 (Cal pe_c Mak pe_mk Met pe_mt pe_mt0)
theorem bonds_form {size : Nat} {fm : List Nat} {t : List V} : t ∈ bondsL size fm size ↔ ∃ x y, x < y ∧ y < size ∧ (rivB size fm x y || mateB size fm x y) = true ∧ t = [.int (x : Nat), .int (y : Nat), .bl (rivB size fm x y), .bl (mateB size fm x y)] := by
  unfold bondsL rowL rowB
  rw [List.mem_flatMap]
  constructor
  · rintro ⟨x, hx, h⟩
    obtain ⟨j, hj, e⟩ := List.mem_filterMap.mp h
    split at e
    · rename_i hc
      cases e
      exact ⟨x, x + 1 + j, by omega, by have := List.mem_range.mp hj; omega, hc, rfl⟩
    · cases e
  · rintro ⟨x, y, h1, h2, h3, rfl⟩
    refine ⟨x, List.mem_range.mpr (by omega), List.mem_filterMap.mpr ⟨y - (x + 1), List.mem_range.mpr (by omega), ?_⟩⟩
    have e : x + 1 + (y - (x + 1)) = y := by omega
    rw [e, if_pos h3]
theorem s_mark {K : PySem.W.Frag} {D : Ends} {σ : L2.St} {H : Hp} {d b : Addr} {ks : List (List Key × V)} {S : Nat → Nat → Nat → Prop} {x y c j : Nat} {r m bit : Bool} (h14 : σ[14]? = some (some (.ref d))) (h15 : σ[15]? = some (some (.ref b))) (hb : H b = some (.tup [.int (x : Nat), .int (y : Nat), .bl r, .bl m])) (hd : H d = some (.dT ks)) (hm : Mrk ks S) (hx : x < 5) (hy : y < 5) (hc : c < 2)
    (hj : ([.int (x : Nat), .int (y : Nat), .bl r, .bl m] : List V)[j]? = some (.bl bit)) (k : ∀ H' ks', XB d H H' → H' d = some (.dT ks') → Mrk ks' (fun u v s => S u v s ∨ (u = x ∧ v = y ∧ s = c ∧ bit = true)) → D.nx σ H') :
    tIfS (fun σ H Q => tOp (rIxTN K) (tVar 15) (tC (.int (j : Nat))) σ H fun x H' => ∃ k, TruV K x H' k ∧ Q k H') (sDPut (tVar 14) (tTup (tCons (tOp (rIxTN K) (tVar 15) (tC (.int ((0 : Nat) : Int)))) (tCons (tOp (rIxTN K) (tVar 15) (tC (.int ((1 : Nat) : Int)))) (tCons (tC (.int (c : Nat))) tNil)))) (tC (.bl true))) tNext D σ H := by
  refine s_when (b := bit) (et_truB (ev_ixT (st_of hb) (ev_v 15 h15) ev_c hj)) (fun hbt H1 e1 => ?_) (fun hbt H1 e1 => k H1 ks (fun b o _ h => e1 _ _ h) (e1 _ _ hd) (hm.iff fun u v s => ⟨.inl, fun h => h.resolve_right fun z => by rw [hbt] at z; cases z.2.2.2⟩))
  refine ⟨.ref d, h14, ?_⟩
  refine eu_tup (vs := [.int (x : Nat), .int (y : Nat), .int (c : Nat)]) (ea_cons (ev_ixT (i := 0) (st_of (e1 _ _ hb)) (ev_v 15 h15) ev_c rfl) (ea_cons (ev_ixT (i := 1) (st_of (e1 _ _ hb)) (ev_v 15 h15) ev_c rfl) (ea_cons ev_c ea_nil))) (by show 3 ≤ 100000; decide) H1 (Ex.refl _) _ fun T H2 hT e2 h2 => ⟨d, _, rfl, DPut.t (k := kM x y c) (e2 _ _ (e1 _ _ hd)) (by rw [kM_v]; exact h2) (sz_lt (by have := hm.len; omega)), ?_⟩
  refine k _ _ (fun b o n h => by rw [upd_ne n]; exact e2 _ _ (e1 _ _ h)) upd_same ((hm.put hx hy hc).iff fun u v s => ?_)
  rw [hbt]
  simp
/-- the marks that a bond's tuple tells -/
def tellS (t : List V) (x y s : Nat) : Prop := ∃ a b, t = [.int (x : Nat), .int (y : Nat), .bl a, .bl b] ∧ ((s = 0 ∧ a = true) ∨ (s = 1 ∧ b = true))
theorem tell_due {size : Nat} {fm : List Nat} {x y s : Nat} : (∃ t ∈ bondsL size fm size, tellS t x y s) ↔ dueS size fm x y s := by
  constructor
  · rintro ⟨t, ht, a, b, e, h⟩
    obtain ⟨u, v, h1, h2, h3, rfl⟩ := bonds_form.mp ht
    injection e with e1 e
    injection e with e2 e
    injection e with e3 e
    injection e with e4 e
    injection e1 with e1
    injection e2 with e2
    injection e3 with e3
    injection e4 with e4
    have e1 : u = x := by omega
    have e2 : v = y := by omega
    subst e1 e2 e3 e4
    exact ⟨h1, h2, h⟩
  · rintro ⟨h1, h2, h⟩
    refine ⟨_, bonds_form.mpr ⟨x, y, h1, h2, ?_, rfl⟩, _, _, rfl, h⟩
    rcases h with ⟨_, h⟩ | ⟨_, h⟩ <;> simp [h]
section
variable {K : PySem.W.Frag} {σ : L2.St} {H : Hp} {ta tb : TE}
theorem ev_eqDT {a b : Addr} {ks ls : List (List Key × V)} {S : Nat → Nat → Nat → Prop} (ha : Ev ta σ H (.ref a)) (hb : Ev tb σ H (.ref b)) (h1 : H a = some (.dT ks)) (h2 : H b = some (.dT ls)) (m1 : Mrk ks S) (m2 : Mrk ls S) : Ev (tOp rEqDT ta tb) σ H (.bl true) :=
  ev_op ha hb fun H1 e Q q => ⟨a, b, ks, ls, rfl, rfl, e _ _ h1, e _ _ h2, (m1.eq m2).1, (m1.eq m2).2, q H1 (Ex.refl _)⟩
end
section
variable {P : Program} {w : World} {K : PySem.W.Frag} {mg : Str → Option Value} {base : Heap} {f : Addr} {fd : FuncData} {CF CA : Addr}
def spLumped (CF : Addr) : Sp := fun vs H Q _ => ∃ (a p : Addr) (size step : Nat) (fm : List Nat) (rs : List V), vs = [.ref a, .int size, .ref p, .int step] ∧ FamAt H CF a size fm ∧ FamOk size fm ∧ EX (· ∈ fm) ∧ H p = some (.lst rs) ∧ Tups H rs (bondsL size fm size) ∧ RetV (.bl true) H Q
theorem sc_law_lumped : FnScope ["_law_family_here", "_law_size", "_law_found", "_law_step", "_law_tops", "_law_every", "_law_peaked", "_law_lots_here", "_law_lot_here", "_law_at", "_law_lumps", "_law_things", "_law_lump", "_law_thing", "_law_due", "_law_bond", "_law_mark"] ["_law_family_here", "_law_size", "_law_found", "_law_step"] (defScope (top 84)) := ⟨rfl, rfl, rfl, by decide +kernel, rfl, by decide +kernel, by decide +kernel⟩
theorem c_law_lumped (C : FC K CF) (CC : AC K CA) (F : FnP K "_law_lumped" (top 84) f fd) (g : mg "_law_lumped" = some (.ref f)) (B : Bi mg) (c_peaks : Cal P w K mg base 7 "peaks" (spPeaks CF) []) (c_law_lot : Cal P w K mg base 1 "_law_lot" spLot []) (m_At : Mak P w K mg base 7 "At" CA (spAt CF CA) []) (m_lumps : Met P w K mg base 5 CA "lumps" (spAtL CF CA fun size fm t => RetLotsU (lumpsF size fm t)) []) (m_loops : Met P w K mg base 1 CA "loops" (spLoops CF CA) []) (m_coloops : Met P w K mg base 1 CA "coloops" (spAtL CF CA fun size fm t => RetU (nv (coF size fm t))) []) (c_law_marked : Cal P w K mg base 1 "_law_marked" spMarked []) : Cal P w K mg base 9 "_law_lumped" (spLumped CF) [] := by
  refine mkCal F g sc_law_lumped (fun _ _ _ _ _ _ us hl => match us, hl with | [_, _, _, _], _ => rfl) (fun vs H Q E h => ?_) (fun cdv A outer s H vs Q E hr h => ?_)
  · obtain ⟨a, p, size, step, fm, rs, rfl, _⟩ := h
    rfl
  · obtain ⟨a, p, size, step, fm, rs, rfl, hf, ok, hex, hp, hT, q⟩ := h
    have hz := ok.s5
    have h64 := pow64 (n := size) (by omega)
    refine ⟨_, (pss_cons (ps_set (i := 4) sc_law_lumped.nd rfl (by first | exact Or.inl rfl | exact Or.inr rfl) (pe_c c_peaks hr (by decide) rfl (pa_cons (pv 0) pa_nil))) (pss_cons (ps_set (i := 5) sc_law_lumped.nd rfl (by first | exact Or.inl rfl | exact Or.inr rfl) pe_dnewT) (pss_cons (ps_set (i := 6) sc_law_lumped.nd rfl (by first | exact Or.inl rfl | exact Or.inr rfl) pe_dnewT) (pss_cons (ps_set (i := 7) sc_law_lumped.nd rfl (by first | exact Or.inl rfl | exact Or.inr rfl) (pe_listRg rfl (by rfl) B.list (prg_1 rfl B.range (pe_op on_shl (pe_nat 1 pe_int) (pv 1))))) (pss_cut (ps_if (pt_cmpR on_ge (pv 1) (pe_nat 5 pe_int) (nomark _)) (pss_one (ps_setLc (i := 7) (own := [("_law_lot_here", 8)]) (g := gName 8) (by rfl) sc_law_lumped.nd rfl rfl (sw_true rfl rfl rfl (by decide +kernel)) (pi_list (pv 7)) (blkOk_by (own := [("_law_lot_here", 8)]) (N := ["_law_family_here", "_law_size", "_law_found", "_law_step", "_law_tops", "_law_every", "_law_peaked", "_law_lots_here", "_law_lot_here", "_law_at", "_law_lumps", "_law_things", "_law_lump", "_law_thing", "_law_due", "_law_bond", "_law_mark"]) (sc := defScope (top 84)) (by decide +kernel)) (fun _ _ _ _ _ => (pg_name (i := 8) sc_law_lumped.nd rfl (by first | exact Or.inl rfl | exact Or.inr rfl))) (fun _ _ _ _ _ => (pts_one (PW.pt (pw_or (pt_cmpR (op_inDK (K := K) rfl (units65 hr)) (pe_c c_law_lot hr (by decide) rfl (pa_cons (pv 8) pa_nil)) (pv 4) rfl) (pw_or1 (pt_cmpR op_eq (pe_op op_mod (pe_callTy call_int1 (by rfl) B.int (by decide +kernel) (pa_cons (pe_op on_add (pv 8) (pv 3)) pa_nil)) pe_int) pe_int (nomark _))))))) (fun _ _ _ _ _ => (pv 8)))) pss_nil) (pss_cons (ps_for PassesOwn.never rfl (pi_list (pv 7)) (pg_name (i := 8) sc_law_lumped.nd rfl (by first | exact Or.inl rfl | exact Or.inr rfl)) (pss_cons (ps_set (i := 9) sc_law_lumped.nd rfl (by first | exact Or.inl rfl | exact Or.inr rfl) (pe_mk m_At hr (by decide) rfl (pa_cons (pv 0) (pa_cons (pe_c c_law_lot hr (by decide) rfl (pa_cons (pv 8) pa_nil)) pa_nil)))) (pss_cons (ps_set (i := 10) sc_law_lumped.nd rfl (by first | exact Or.inl rfl | exact Or.inr rfl) (pe_mt0 m_lumps hr (by decide) (pv 9))) (pss_cons (ps_set (i := 11) sc_law_lumped.nd rfl (by first | exact Or.inl rfl | exact Or.inr rfl) (pe_lst pa_nil)) (pss_cons (ps_for PassesOwn.never rfl (pi_tup (pv 10)) (pg_name (i := 12) sc_law_lumped.nd rfl (by first | exact Or.inl rfl | exact Or.inr rfl)) (pss_cons (ps_set (i := 11) sc_law_lumped.nd rfl (by first | exact Or.inl rfl | exact Or.inr rfl) (pe_op op_cat (pv 11) (pe_callTy call_list_of (by rfl) B.list (by decide +kernel) (pa_cons (pv 12) pa_nil)))) (pss_one (ps_if (PW.pt (pw_and (pt_cmpR on_gt (pe_callB call_len_seq (by rfl) B.len (by decide +kernel) (pa_cons (pv 12) pa_nil)) (pe_nat 1 pe_int) (nomark _)) (pw_and1 (pt_cmpR on_gt (pe_callB call_len_seq (by rfl) B.len (by decide +kernel) (pa_cons (pe_lc (own := [("_law_thing", 13)]) (g := gName 13) (by rfl) sc_law_lumped.nd (pi_tup (pv 12)) (blkOk_by (own := [("_law_thing", 13)]) (N := ["_law_family_here", "_law_size", "_law_found", "_law_step", "_law_tops", "_law_every", "_law_peaked", "_law_lots_here", "_law_lot_here", "_law_at", "_law_lumps", "_law_things", "_law_lump", "_law_thing", "_law_due", "_law_bond", "_law_mark"]) (sc := defScope (top 84)) (by decide +kernel)) (fun _ _ _ _ _ => (pg_name (i := 13) sc_law_lumped.nd rfl (by first | exact Or.inl rfl | exact Or.inr rfl))) (fun _ _ _ _ _ => (pts_one (pt_cmpR (op_in_seqK (K := K) rfl) (pv 13) (pe_op (op_catAK (K := K) rfl) (pe_mt0 m_loops hr (by decide) (pv 9)) (pe_mt0 m_coloops hr (by decide) (pv 9))) rfl))) (fun _ _ _ _ _ => (pv 13))) pa_nil)) (pe_nat 0 pe_int) (nomark _))))) (pss_one (ps_ret pe_bl)) pss_nil)))) (pss_cons (ps_if (pt_cmpR (op_neD hr.units) (pe_callB cr_sortedI (by rfl) B.sorted (by decide +kernel) (pa_cons (pv 11) pa_nil)) (pe_listRg rfl (by rfl) B.list (prg_1 rfl B.range (pv 1))) (nomark _)) (pss_one (ps_ret pe_bl)) pss_nil) (pss_cons (ps_set (i := 5) sc_law_lumped.nd rfl (by first | exact Or.inl rfl | exact Or.inr rfl) (pe_c c_law_marked hr (by decide) rfl (pa_cons (pv 5) (pa_cons (pv 8) (pa_cons (pv 10) pa_nil))))) (pss_one (ps_if (pt_cmpR (op_inDK (K := K) rfl (units65 hr)) (pe_c c_law_lot hr (by decide) rfl (pa_cons (pv 8) pa_nil)) (pv 4) rfl) (pss_one (ps_set (i := 6) sc_law_lumped.nd rfl (by first | exact Or.inl rfl | exact Or.inr rfl) (pe_c c_law_marked hr (by decide) rfl (pa_cons (pv 6) (pa_cons (pv 8) (pa_cons (pv 10) pa_nil)))))) pss_nil))))))))) (pss_cons (ps_set (i := 14) sc_law_lumped.nd rfl (by first | exact Or.inl rfl | exact Or.inr rfl) pe_dnewT) (pss_cons (ps_for PassesOwn.never rfl (pi_list (pv 2)) (pg_name (i := 15) sc_law_lumped.nd rfl (by first | exact Or.inl rfl | exact Or.inr rfl)) (pss_cons (ps_if (pt_truthK (K := K) rfl (pe_ix (on_ixT (K := K)) (pv 15) (pe_nat 2 pe_int) (fun _ _ => rfl)) (fun _ => rfl)) (pss_one (ps_dput (hu_of hr) (pv 14) (pe_tup (pa_cons (pe_ix (on_ixT (K := K)) (pv 15) (pe_nat 0 pe_int) (fun _ _ => rfl)) (pa_cons (pe_ix (on_ixT (K := K)) (pv 15) (pe_nat 1 pe_int) (fun _ _ => rfl)) (pa_cons (pe_nat 0 pe_int) pa_nil)))) pe_bl rfl)) pss_nil) (pss_one (ps_if (pt_truthK (K := K) rfl (pe_ix (on_ixT (K := K)) (pv 15) (pe_nat 3 pe_int) (fun _ _ => rfl)) (fun _ => rfl)) (pss_one (ps_dput (hu_of hr) (pv 14) (pe_tup (pa_cons (pe_ix (on_ixT (K := K)) (pv 15) (pe_nat 0 pe_int) (fun _ _ => rfl)) (pa_cons (pe_ix (on_ixT (K := K)) (pv 15) (pe_nat 1 pe_int) (fun _ _ => rfl)) (pa_cons (pe_nat 1 pe_int) pa_nil)))) pe_bl rfl)) pss_nil)))) (pss_cons (ps_lock (ps_for PassesOwn.never rfl (pi_keys (pv 5)) (pg_name (i := 16) sc_law_lumped.nd rfl (by first | exact Or.inl rfl | exact Or.inr rfl)) (pss_one (ps_if (pt_cmp (pc_dnotin (hu_of hr) (pv 16) (pv 14))) (pss_one (ps_ret pe_bl)) pss_nil)))) (pss_one (ps_ret (pe_and (pe_or (pe_cmpR on_ge (pv 1) (pe_nat 5 pe_int) (nomark _)) (pe_one (pe_cmpR (op_eq_dictT hr.units) (pv 5) (pv 14) (nomark _)))) (pe_one (pe_cmpR (op_eq_dictT hr.units) (pv 6) (pv 14) (nomark _))))))))))))))), ?_⟩
    refine ⟨.ref a, rfl, a, size, fm, rfl, hf, ok, rows_ok ok.lt hex, fun L l1 l2 tp trs H1 htp e1 h1 L1 => ?_⟩
    intro d1 hd1
    have x1 := Ex.new (o := .dT []) hd1
    have hd1H := fresh_back e1 hd1
    have h11 := x1 _ _ h1
    have L11 := L1.ex x1
    have k1 : upd H1 d1 (.dT []) d1 = some (.dT []) := upd_same
    have e11 := e1.trans x1
    generalize upd H1 d1 (.dT []) = H2 at x1 h11 L11 k1 e11
    intro d2 hd2
    have x2 := Ex.new (o := .dT []) hd2
    have hd2H := fresh_back e11 hd2
    have hd12 : d1 ≠ d2 := fun e => by rw [e, hd2] at k1; cases k1
    have h12 := x2 _ _ h11
    have L12 := L11.ex x2
    have k1' := x2 _ _ k1
    have k2 : upd H2 d2 (.dT []) d2 = some (.dT []) := upd_same
    have e12 := e11.trans x2
    generalize upd H2 d2 (.dT []) = H3 at x2 h12 L12 k1' k2 e12
    have top_in : ∀ t, t < 1 <<< size → topB size fm t = true → lotF t ∈ L := fun t ht htb => l1.mem_iff.mpr (List.mem_map.mpr ⟨t, List.mem_filter.mpr ⟨List.mem_range.mpr ht, htb⟩, rfl⟩)
    show tSeq _ _ _ [some (.ref a), some (.int size), some (.ref p), some (.int step), some (.ref tp), some (.ref d1), some (.ref d2), none, none, none, none, none, none, none, none, none, none] H3
    have hlr := el_listRg (n := 1 <<< size) (ta := tOp (rN (fun a b => a < 64 ∧ b < 64) fun a b => .int ((a <<< b : Nat) : Int)) (tC (.int ((1 : Nat) : Int))) (tVar 1)) (σ := [some (.ref a), some (.int size), some (.ref p), some (.int step), some (.ref tp), some (.ref d1), some (.ref d2), none, none, none, none, none, none, none, none, none, none]) (H := H3) (ev_nc ev_c (ev_v 1) ⟨by decide, by omega⟩) (by omega)
    refine q_asgL hlr fun c0 H4 hc0 e4 h4 => ?_
    -- the lots that are looked at
    refine q_cut (M := fun σ' H' => Ex H4 H' ∧ ∃ (c : Addr) (lh : List Nat) (v8 : Option V), H' c = some (.lst (nv lh)) ∧ (∀ t ∈ lh, t < 1 <<< size) ∧ (∀ t, t < 1 <<< size → topB size fm t = true → t ∈ lh) ∧ (size < 5 → ∀ t, t < 1 <<< size → t ∈ lh) ∧ σ' = [some (.ref a), some (.int size), some (.ref p), some (.int step), some (.ref tp), some (.ref d1), some (.ref d2), some (.ref c), v8, none, none, none, none, none, none, none, none]) ?_ ?_
    · refine s_when (b := decide (5 ≤ size)) (et_test (ev_n (ev_v 1) ev_c)) (fun hb H5 e5 => ?_) (fun hb H5 e5 => ⟨e5, c0, List.range (1 <<< size), _, e5 _ _ h4, fun t ht => List.mem_range.mp ht, fun t ht _ => List.mem_range.mpr ht, fun _ t ht => List.mem_range.mpr ht, rfl⟩)
      have el := el_nats (K := K) (tl := tVar 7) (te := tVar 8) (t := tOr (tTest (tOp (rInD K) (tCall spLot [] C8.E0 (tCons (tVar 8) tNil)) (tVar 4))) (tTest (tOp rEq (tOp (rI (fun _ j => 0 < j) fun i j => .int (i % j)) (tCB (fun xs H Q => (∃ i, xs = [.int i] ∧ Q (.int i) H) ∨ ∃ k, xs = [.bl k] ∧ Q (.int (if k then 1 else 0)) H) (tCons (tOp (rN0 fun a b => .int ((a + b : Nat) : Int)) (tVar 8) (tVar 3)) tNil)) (tC (.int 8))) (tC (.int 0))))) (j := 8) (vs := [8]) (a := c0) (ns := List.range (1 <<< size)) (σ := [some (.ref a), some (.int size), some (.ref p), some (.int step), some (.ref tp), some (.ref d1), some (.ref d2), some (.ref c0), none, none, none, none, none, none, none, none, none]) (H := H5) (fun t => inB L (lotF t) || decide (V.int (((t + step : Nat) : Int) % 8) = .int 0)) (fun t => .int (t : Nat)) (ev_v 7) (sq_of (e5 _ _ h4)) (by rw [List.length_range]; omega) (fun _ => rfl) (fun t H6 e6 ht => et_or (et_inLots (ns := lotF t) (eu_call (ea_cons (ev_v 8) ea_nil) fun H7 e7 Q7 q7 E7 => ⟨t, rfl, q7⟩) (ev_v 4) (e6 _ _ (e5 _ _ (e4 _ _ h12))) (((L12.ex e4).ex e5).ex e6)) fun _ => et_test (ev_op (ev_op (ev_cb (ea_cons (ev_n (ev_v 8) (ev_v 3)) ea_nil) (fun H7 e7 Q7 q7 => .inl ⟨_, rfl, q7 H7 (Ex.refl _)⟩)) ev_c (rv_I (by decide))) ev_c (rv_eq rfl))) (fun t H6 e6 ht _ => ev_v 8)
      refine s_asgL el fun c H6 hc e6 h6 => ⟨e5.trans e6, c, (List.range (1 <<< size)).filter fun t => inB L (lotF t) || decide (V.int (((t + step : Nat) : Int) % 8) = .int 0), _, h6, fun t ht => List.mem_range.mp (List.mem_filter.mp ht).1, fun t ht htb => List.mem_filter.mpr ⟨List.mem_range.mpr ht, by rw [in_yes (top_in t ht htb)]; rfl⟩, fun h => absurd h (by have := of_decide_eq_true hb; omega), rfl⟩
    rintro σ' H5 ⟨e5, c, lh, v8, h5, lb, ltop, lall, rfl⟩
    have e15 := e12.trans (e4.trans e5)
    have f5 := hf.ex e15
    have d15 := e5 _ _ (e4 _ _ k1')
    have d25 := e5 _ _ (e4 _ _ k2)
    have x05 : X2 d1 d2 H5 H5 := fun b o _ _ h => h
    have tp5 := e5 _ _ (e4 _ _ h12)
    have L5 := (L12.ex e4).ex e5
    have tpd1 : tp ≠ d1 := fun e => by rw [e, d15] at tp5; cases tp5
    have tpd2 : tp ≠ d2 := fun e => by rw [e, d25] at tp5; cases tp5
    have cd1 : c ≠ d1 := fun e => by rw [e, d15] at h5; cases h5
    have cd2 : c ≠ d2 := fun e => by rw [e, d25] at h5; cases h5
    refine q_forLn (xs := nv lh) (ev_v 7) (sq_of h5) (fun i σ H' => X2 d1 d2 H5 H' ∧ (∃ k1 S1, H' d1 = some (.dT k1) ∧ Mrk k1 S1 ∧ (∀ x y s, S1 x y s → dueS size fm x y s) ∧ ∀ t ∈ lh.take i, ∀ l ∈ lumpsF size fm t, ∀ x ∈ l, ∀ y ∈ l, x < y → S1 x y (srt t x y)) ∧ (∃ k2 S2, H' d2 = some (.dT k2) ∧ Mrk k2 S2 ∧ (∀ x y s, S2 x y s → dueS size fm x y s) ∧ ∀ t ∈ lh.take i, topB size fm t = true → ∀ l ∈ lumpsF size fm t, ∀ x ∈ l, ∀ y ∈ l, x < y → S2 x y (srt t x y)) ∧ ∃ v8 v9 v10 v11 v12 v13, σ = [some (.ref a), some (.int size), some (.ref p), some (.int step), some (.ref tp), some (.ref d1), some (.ref d2), some (.ref c), v8, v9, v10, v11, v12, v13, none, none, none]) (fun H6 e6 => ⟨x05.ex e6, ⟨[], _, e6 _ _ d15, Mrk.nil, fun x y s h => h.elim, fun t ht => by simp at ht⟩, ⟨[], _, e6 _ _ d25, Mrk.nil, fun x y s h => h.elim, fun t ht => by simp at ht⟩, _, _, _, _, _, _, rfl⟩) (fun i σ H' _ h => sq_of (h.1 _ _ cd1 cd2 h5)) ?_ ?_
    · rintro i vt σ H6 hti ⟨x6, ⟨k1, S1, d16, m1, up1, lo1⟩, ⟨k2, S2, d26, m2, up2, lo2⟩, v8, v9, v10, v11, v12, v13, rfl⟩
      obtain ⟨t, ht, rfl⟩ := nv_get hti
      have htl := List.mem_of_getElem? ht
      have hts := lb t htl
      have G : Gat size fm t := ⟨ok, hex, hts⟩
      obtain ⟨lf1, lf2, lf3⟩ := lump_facts G
      have f6 := f5.x2 d15 d25 x6
      show tSeq _ _ _ [some (.ref a), some (.int size), some (.ref p), some (.int step), some (.ref tp), some (.ref d1), some (.ref d2), some (.ref c), some (.int (t : Nat)), v9, v10, v11, v12, v13, none, none, none] H6
      refine q_At f6 G (eu_call (ea_cons (ev_v 8) ea_nil) fun H7 e7 Q7 q7 E7 => ⟨t, rfl, q7⟩) fun x9 H7 hx9 e7 A7 => ?_
      refine q_lumps A7 ok hts fun p10 rsL H8 hp10 e8 h8 L8 => ?_
      refine q_asgL (el_lst ea_nil (by decide)) fun c11 H9 hc11 e9 h9 => ?_
      have A9 := (A7.ex e8).ex e9
      have h89 := e9 _ _ h8
      have L9 := L8.ex e9
      refine q_forT (xs := rsL) (ev_v 10) (st_of h89) (fun j σ H' => Ex H9 H' ∧ ∃ cc v12 v13, H' cc = some (.lst (nv ((lumpsF size fm t).take j).flatten)) ∧ σ = [some (.ref a), some (.int size), some (.ref p), some (.int step), some (.ref tp), some (.ref d1), some (.ref d2), some (.ref c), some (.int (t : Nat)), some (.ref x9), some (.ref p10), some (.ref cc), v12, v13, none, none, none]) (fun H10 e10 => ⟨e10, c11, _, _, by rw [e10 _ _ h9]; rfl, rfl⟩) (fun j σ H' _ h => st_of (h.1 _ _ h89)) ?_ ?_
      · rintro j r σ H10 hrj ⟨e10, cc, v12, v13, hcc, rfl⟩
        have hj : j < (lumpsF size fm t).length := by rw [← L9.1]; exact (List.getElem?_eq_some_iff.mp hrj).1
        have hn : (lumpsF size fm t)[j]? = some (lumpsF size fm t)[j] := List.getElem?_eq_some_iff.mpr ⟨hj, rfl⟩
        obtain ⟨b, rfl, hbt⟩ := (L9.2 j r _ hrj hn).ex e10
        have hlm := List.getElem_mem hj
        have htk : (lumpsF size fm t).take (j + 1) = (lumpsF size fm t).take j ++ [(lumpsF size fm t)[j]] := by rw [List.take_add_one, hn]; rfl
        generalize (lumpsF size fm t)[j] = lot at hbt hlm htk hn
        have hlot : lot.Nodup ∧ (∀ v ∈ lot, v < size) ∧ lot.length ≤ 5 := by
          have hnd : (lumpsF size fm t).flatten.Nodup := lf1.nodup_iff.mpr List.nodup_range
          have hs := List.sublist_flatten_of_mem hlm
          refine ⟨hnd.sublist hs, fun v hv => List.mem_range.mp (lf1.mem_iff.mp (List.mem_flatten.mpr ⟨lot, hlm, hv⟩)), ?_⟩
          have := hs.length_le
          rw [lf1.length_eq, List.length_range] at this
          omega
        have hfl : (nv ((lumpsF size fm t).take j).flatten).length ≤ 5 := by
          rw [nv_len]
          have := congrArg List.length (congrArg List.flatten (List.take_append_drop j (lumpsF size fm t)))
          rw [List.flatten_append, List.length_append] at this
          rw [lf1.length_eq, List.length_range] at this
          omega
        show tSeq _ _ _ [some (.ref a), some (.int size), some (.ref p), some (.int step), some (.ref tp), some (.ref d1), some (.ref d2), some (.ref c), some (.int (t : Nat)), some (.ref x9), some (.ref p10), some (.ref cc), some (.ref b), v13, none, none, none] H10
        refine q_asgL (el_catVL (ev_v 11) hcc (el_listT (K := K) (ev_v 12) (st_of hbt)) (by have := nv_len (ns := lot); omega)) fun c2 H11 hc2 e11 h11' => ?_
        have hb11 := e11 _ _ hbt
        have A11 := (A9.ex e10).ex e11
        have el := el_natsT (K := K) (tl := tVar 12) (te := tVar 13) (t := tTest (tOp (rIn K false) (tVar 13) (tOp (rCatA K) (tMeth CA "loops" (spLoops CF CA) [] C8.E0 (tVar 9) tNil) (tMeth CA "coloops" (spAtL CF CA fun size fm t => RetU (nv (coF size fm t))) [] C8.E0 (tVar 9) tNil)))) (j := 13) (vs := [13]) (a := b) (ns := lot) (σ := [some (.ref a), some (.int size), some (.ref p), some (.int step), some (.ref tp), some (.ref d1), some (.ref d2), some (.ref c), some (.int (t : Nat)), some (.ref x9), some (.ref p10), some (.ref c2), some (.ref b), v13, none, none, none]) (H := H11) (fun v => decide (v ∈ loopF size fm t ++ coF size fm t)) (fun v => .int (v : Nat)) (ev_v 12) (st_of hb11) (by omega) (fun _ => rfl) (fun v H12 e12 hv => et_test (ev_inCat (ev_v 13) (eu_loops (A11.ex e12) ok hts) (eu_coloops (A11.ex e12) ok hts) (by
          have a1 := List.length_filter_le (fun x => !heldB fm t x) (List.range size)
          have a2 := List.length_filter_le (fun x => (basesF fm t).all fun b => b.testBit x) (List.range size)
          rw [List.length_range] at a1 a2
          unfold loopF coF
          omega))) (fun v H12 e12 hv _ => ev_v 13)
        refine s_when (b := decide (1 < lot.length) && decide (0 < (lot.filter fun v => decide (v ∈ loopF size fm t ++ coF size fm t)).length)) (et_and (et_is (et_test (ev_n (ev_lenTup (K := K) (ev_v 12) (st_of hb11)) ev_c)) (by rw [nv_len])) fun _ => et_test (ev_n (ev_is (ev_lenN (K := K) el) (by rw [List.length_map])) ev_c)) (fun hb => ?_) (fun hb H12 e12 => ⟨e10.trans (e11.trans e12), c2, _, _, ?_, rfl⟩)
        · obtain ⟨b1, b2⟩ := Bool.and_eq_true_iff.mp hb
          have b1 := of_decide_eq_true b1
          have b2 := of_decide_eq_true b2
          obtain ⟨v, hv⟩ := List.length_pos_iff_exists_mem.mp b2
          obtain ⟨v1, v2⟩ := List.mem_filter.mp hv
          exact absurd (of_decide_eq_true v2) (lump_free G hlm hlot.1 b1 v1)
        · rw [e12 _ _ h11', htk, List.flatten_append]
          unfold nv
          rw [List.map_append]
          simp
      · rintro σ H10 ⟨e10, cc, v12, v13, hcc, rfl⟩
        rw [L9.1, List.take_length] at hcc
        refine q_when (b := false) (et_test (ev_neNew (el_sortV (K := K) (ev_v 11) (sq_of hcc) lf1 (List.pairwise_lt_range.imp fun h => by omega)) (el_listRg (ev_v 1) (by omega)))) (fun hb => absurd hb (by decide)) (fun _ H11 e11 => ?_)
        have e611 := e7.trans (e8.trans (e9.trans (e10.trans e11)))
        have L11 := (L9.ex e10).ex e11
        have p11 := e11 _ _ (e10 _ _ h89)
        have d1' := e611 _ _ d16
        have d2' := e611 _ _ d26
        have lb5 : ∀ l ∈ lumpsF size fm t, ∀ v ∈ l, v < 5 := fun l hl v hv => by
          have := List.mem_range.mp (lf1.mem_iff.mp (List.mem_flatten.mpr ⟨l, hl, hv⟩))
          omega
        have htk : lh.take (i + 1) = lh.take i ++ [t] := by rw [List.take_add_one, ht]; rfl
        refine ⟨.ref d1, rfl, .int (t : Nat), rfl, .ref p10, rfl, d1, p10, t, k1, S1, rsL, _, rfl, d1', m1, p11, L11, lb5, fun H12 k1n xb12 d112 m1n => ?_⟩
        have pd1 : p10 ≠ d1 := fun e => by rw [e, d1'] at p11; cases p11
        have pd2 : p10 ≠ d2 := fun e => by rw [e, d2'] at p11; cases p11
        have d212 := xb12 _ _ (fun e => hd12 e.symm) d2'
        have x12 := (x6.ex e611).x1 xb12
        have n1up : ∀ x y s, markS t (lumpsF size fm t) S1 x y s → dueS size fm x y s := fun x y s h => by
          rcases h with h | ⟨l, hl, a1, a2, a3, rfl⟩
          · exact up1 x y s h
          · exact lump_due G hl a1 a2 a3
        have n1lo : ∀ t' ∈ lh.take (i + 1), ∀ l ∈ lumpsF size fm t', ∀ x ∈ l, ∀ y ∈ l, x < y → markS t (lumpsF size fm t) S1 x y (srt t' x y) := fun t' ht' l hl x hx y hy hxy => by
          rw [htk, List.mem_append] at ht'
          rcases ht' with h | h
          · exact .inl (lo1 t' h l hl x hx y hy hxy)
          · have : t' = t := by simpa using h
            subst this
            exact .inr ⟨l, hl, hx, hy, hxy, rfl⟩
        refine s_when (b := inB L (lotF t)) (et_inLots (eu_call (ea_cons (ev_v 8) ea_nil) fun H13 e13 Q13 q13 E13 => ⟨t, rfl, q13⟩) (ev_v 4) (x12 _ _ tpd1 tpd2 tp5) (L5.x2 d15 d25 x12)) (fun hb H13 e13 => ?_) (fun hb H13 e13 => ⟨x12.ex e13, ⟨k1n, _, e13 _ _ d112, m1n, n1up, n1lo⟩, ⟨k2, S2, e13 _ _ d212, m2, up2, fun t' ht' htop => ?_⟩, _, _, _, _, _, _, rfl⟩)
        · refine ⟨.ref d2, rfl, .int (t : Nat), rfl, .ref p10, rfl, d2, p10, t, k2, S2, rsL, _, rfl, e13 _ _ d212, m2, e13 _ _ (xb12 _ _ pd1 p11), (L11.xd d1' xb12).ex e13, lb5, fun H14 k2n xb14 d214 m2n => ⟨(x12.ex e13).x2 xb14, ⟨k1n, _, xb14 _ _ hd12 (e13 _ _ d112), m1n, n1up, n1lo⟩, ⟨k2n, _, d214, m2n, fun x y s h => ?_, fun t' ht' htop l hl x hx y hy hxy => ?_⟩, _, _, _, _, _, _, rfl⟩⟩
          · rcases h with h | ⟨l, hl, a1, a2, a3, rfl⟩
            · exact up2 x y s h
            · exact lump_due G hl a1 a2 a3
          · rw [htk, List.mem_append] at ht'
            rcases ht' with h | h
            · exact .inl (lo2 t' h htop l hl x hx y hy hxy)
            · have : t' = t := by simpa using h
              subst this
              exact .inr ⟨l, hl, hx, hy, hxy, rfl⟩
        · rw [htk, List.mem_append] at ht'
          rcases ht' with h | h
          · exact lo2 t' h htop
          · have : t' = t := by simpa using h
            subst this
            rw [in_yes (top_in t' hts htop)] at hb
            cases hb
    · rintro σ H6 ⟨x6, ⟨k1, S1, d16, m1, up1, lo1⟩, ⟨k2, S2, d26, m2, up2, lo2⟩, v8, v9, v10, v11, v12, v13, rfl⟩
      rw [nv_len, List.take_length] at lo1 lo2
      have M2 : Mrk k2 (dueS size fm) := m2.iff fun x y s => ⟨up2 x y s, fun h => by
        obtain ⟨t, t1, t2, rfl, l, l1, l2, l3, l4⟩ := due_lump ok hex h
        exact lo2 t (ltop t t1 t2) t2 l l1 x l2 y l3 l4⟩
      have M1 : size < 5 → Mrk k1 (dueS size fm) := fun h5 => m1.iff fun x y s => ⟨up1 x y s, fun h => by
        obtain ⟨t, t1, t2, rfl, l, l1, l2, l3, l4⟩ := due_lump ok hex h
        exact lo1 t (lall h5 t t1) l l1 x l2 y l3 l4⟩
      intro d3 hd3
      have x3 := Ex.new (o := .dT []) hd3
      have k3 : upd H6 d3 (.dT []) d3 = some (.dT []) := upd_same
      have hd13 : d1 ≠ d3 := fun e => by rw [e, hd3] at d16; cases d16
      have hd23 : d2 ≠ d3 := fun e => by rw [e, hd3] at d26; cases d26
      have pd1 : p ≠ d1 := fun e => by rw [e, hd1H] at hp; cases hp
      have pd2 : p ≠ d2 := fun e => by rw [e, hd2H] at hp; cases hp
      have p5 := e15 _ _ hp
      have T5 := hT.ex e15
      have p7 := x3 _ _ (x6 _ _ pd1 pd2 p5)
      have T7 := (T5.x2 d15 d25 x6).ex x3
      have d17 := x3 _ _ d16
      have d27 := x3 _ _ d26
      have xx7 := x6.ex x3
      generalize upd H6 d3 (.dT []) = H7 at x3 k3 p7 T7 d17 d27 xx7
      have pd3 : p ≠ d3 := fun e => by rw [e, k3] at p7; cases p7
      show tSeq _ _ _ [some (.ref a), some (.int size), some (.ref p), some (.int step), some (.ref tp), some (.ref d1), some (.ref d2), some (.ref c), v8, v9, v10, v11, v12, v13, some (.ref d3), none, none] H7
      refine q_forLn (xs := rs) (ev_v 2) (sq_of p7) (fun i σ H' => XB d3 H7 H' ∧ (∃ k3 S3, H' d3 = some (.dT k3) ∧ Mrk k3 S3 ∧ ∀ x y s, S3 x y s ↔ ∃ t ∈ (bondsL size fm size).take i, tellS t x y s) ∧ ∃ v15, σ = [some (.ref a), some (.int size), some (.ref p), some (.int step), some (.ref tp), some (.ref d1), some (.ref d2), some (.ref c), v8, v9, v10, v11, v12, v13, some (.ref d3), v15, none]) (fun H8 e8 => ⟨fun b o _ h => e8 _ _ h, ⟨[], _, e8 _ _ k3, Mrk.nil, fun x y s => ⟨fun h => h.elim, fun ⟨t, ht, _⟩ => by simp at ht⟩⟩, _, rfl⟩) (fun i σ H' _ h => sq_of (h.1 _ _ pd3 p7)) ?_ ?_
      · rintro i vb σ H8 hbi ⟨x8, ⟨k3', S3, d38, m3, s3⟩, v15, rfl⟩
        have hi : i < (bondsL size fm size).length := by rw [← T7.1]; exact (List.getElem?_eq_some_iff.mp hbi).1
        have hn : (bondsL size fm size)[i]? = some (bondsL size fm size)[i] := List.getElem?_eq_some_iff.mpr ⟨hi, rfl⟩
        obtain ⟨b, rfl, hbt⟩ := T7.2 i vb _ hbi hn
        have htk : (bondsL size fm size).take (i + 1) = (bondsL size fm size).take i ++ [(bondsL size fm size)[i]] := by rw [List.take_add_one, hn]; rfl
        obtain ⟨x, y, hxy, hys, _, et⟩ := bonds_form.mp (List.getElem_mem hi)
        generalize (bondsL size fm size)[i] = tup at hbt htk et hn
        subst et
        have bd3 : b ≠ d3 := fun e => by rw [e, k3] at hbt; cases hbt
        have hb8 := x8 _ _ bd3 hbt
        have hx5 : x < 5 := by omega
        have hy5 : y < 5 := by omega
        show tSeq _ _ _ [some (.ref a), some (.int size), some (.ref p), some (.int step), some (.ref tp), some (.ref d1), some (.ref d2), some (.ref c), v8, v9, v10, v11, v12, v13, some (.ref d3), some (.ref b), none] H8
        refine s_mark (D := { nx := _, rt := _, bk := _, ct := _ }) (K := K) (j := 2) (c := 0) rfl rfl hb8 d38 m3 hx5 hy5 (by decide) rfl fun H9 k9 x9 d9 m9 => ?_
        refine s_mark (K := K) (j := 3) (c := 1) rfl rfl (x9 _ _ bd3 hb8) d9 m9 hx5 hy5 (by decide) rfl fun H10 k10 x10 d10 m10 => ⟨fun b o n h => x10 _ _ n (x9 _ _ n (x8 _ _ n h)), ⟨k10, _, d10, m10, fun u v s => ?_⟩, _, rfl⟩
        rw [htk, s3]
        constructor
        · rintro ((⟨t, ht, h⟩ | ⟨rfl, rfl, rfl, h⟩) | ⟨rfl, rfl, rfl, h⟩)
          · exact ⟨t, List.mem_append_left _ ht, h⟩
          · exact ⟨_, List.mem_append_right _ List.mem_cons_self, _, _, rfl, .inl ⟨rfl, h⟩⟩
          · exact ⟨_, List.mem_append_right _ List.mem_cons_self, _, _, rfl, .inr ⟨rfl, h⟩⟩
        · rintro ⟨t, ht, h⟩
          rcases List.mem_append.mp ht with ht | ht
          · exact .inl (.inl ⟨t, ht, h⟩)
          · have et : t = [.int (x : Nat), .int (y : Nat), .bl (rivB size fm x y), .bl (mateB size fm x y)] := List.mem_singleton.mp ht
            subst et
            obtain ⟨aa, bb, e, h⟩ := h
            injection e with e1 e
            injection e with e2 e
            injection e with e3 e
            injection e with e4 e
            injection e1 with e1
            injection e2 with e2
            injection e3 with e3
            injection e4 with e4
            have e1 : x = u := by omega
            have e2 : y = v := by omega
            subst e1 e2 e3 e4
            obtain ⟨h1, h2⟩ | ⟨h1, h2⟩ := h
            · exact .inl (.inr ⟨rfl, rfl, h1, h2⟩)
            · exact .inr ⟨rfl, rfl, h1, h2⟩
      · rintro σ H8 ⟨x8, ⟨k3', S3, d38, m3, s3⟩, v15, rfl⟩
        rw [T7.1, List.take_length] at s3
        have M3 : Mrk k3' (dueS size fm) := m3.iff fun x y s => (s3 x y s).trans tell_due
        have d18 := x8 _ _ hd13 d17
        have d28 := x8 _ _ hd23 d27
        have fin : ∀ H', (∀ b o, b ≠ d1 → b ≠ d2 → b ≠ d3 → H8 b = some o → H' b = some o) → Ex H H' := fun H' h b o hb => by
          have n1 : b ≠ d1 := fun e => by rw [e, hd1H] at hb; cases hb
          have n2 : b ≠ d2 := fun e => by rw [e, hd2H] at hb; cases hb
          have h7 := xx7 _ _ n1 n2 (e15 _ _ hb)
          have n3 : b ≠ d3 := fun e => by
            have h6 := x6 _ _ n1 n2 (e15 _ _ hb)
            rw [e, hd3] at h6; cases h6
          exact h _ _ n1 n2 n3 (x8 _ _ n3 h7)
        -- every mark is due
        refine ⟨d1, .dT k1, d18, trivial, fun od => ?_⟩
        have hfz : ∀ b o, b ≠ d1 → H8 b = some o → upd H8 d1 (.frz od (.dT k1)) b = some o := fun b o n h => by rw [upd_ne n]; exact h
        refine ⟨.ref d1, rfl, d1, od, rfl, .inr ⟨k1, upd_same, for_it walk_keysT (fun i σ H' => H' = upd H8 d1 (.frz od (.dT k1)) ∧ ∃ v16, σ = [some (.ref a), some (.int size), some (.ref p), some (.int step), some (.ref tp), some (.ref d1), some (.ref d2), some (.ref c), v8, v9, v10, v11, v12, v13, some (.ref d3), v15, v16]) ⟨rfl, _, rfl⟩ (fun i σ H' _ h => by rw [h.1]; exact upd_same) ?_ ?_⟩⟩
        · rintro i vx σ H9 H10 hi ⟨rfl, v16, rfl⟩ ⟨rfl, k, v, qq, hk, rfl, hq⟩
          show tIfS _ _ _ _ [some (.ref a), some (.int size), some (.ref p), some (.int step), some (.ref tp), some (.ref d1), some (.ref d2), some (.ref c), v8, v9, v10, v11, v12, v13, some (.ref d3), v15, some (.ref qq)] _
          have hkm : k ∈ k1.map (·.1) := List.mem_map.mpr ⟨_, List.mem_of_getElem? hk, rfl⟩
          obtain ⟨x, y, s, rfl, hs⟩ := (m1.mem k).mp hkm
          have hv := M3.val (up1 x y s hs)
          refine ⟨.ref qq, rfl, .ref d3, rfl, d3, some (.bl true), rfl, .inr ⟨k3', kM x y s, qq, .inl (hfz _ _ (fun e => hd13 e.symm) d38), rfl, hq, hv.symm⟩, ?_⟩
          exact ⟨false, rfl, rfl, _, rfl⟩
        · rintro σ H9 ⟨rfl, v16, rfl⟩
          refine ⟨upd_same, ?_⟩
          have hb : ∀ b, b ≠ d1 → upd (upd H8 d1 (.frz od (.dT k1))) d1 (.dT k1) b = H8 b := fun b n => by rw [upd_ne n, upd_ne n]
          have g1 : upd (upd H8 d1 (.frz od (.dT k1))) d1 (.dT k1) d1 = some (.dT k1) := upd_same
          have g2 := (hb d2 (fun e => hd12 e.symm)).trans d28
          have g3 := (hb d3 (fun e => hd13 e.symm)).trans d38
          have hfin := fin (upd (upd H8 d1 (.frz od (.dT k1))) d1 (.dT k1)) (fun b o n1 _ _ h => (hb b n1).trans h)
          generalize upd (upd H8 d1 (.frz od (.dT k1))) d1 (.dT k1) = H9 at g1 g2 g3 hfin
          dsimp only
          refine s_ret (v := .bl (true && true)) (ev_andV (ev_is (ev_orV (a := decide (5 ≤ size)) (b := true) (ev_n (ev_v 1) ev_c) fun h5 => ev_eqDT (ev_v 5) (ev_v 14) g1 g3 (M1 (by have := of_decide_eq_false h5; omega)) M3) (by simp)) fun _ => ev_eqDT (ev_v 6) (ev_v 14) g2 g3 M2 M3) fun H10 e10 => q H10 (hfin.trans e10)
end
end W7
end
section
namespace W7
open PySem PySem.Spec PyProof.Rows L2 L3 Evl
open C8 (Cal pe_c Mak pe_mk Met pe_mt pe_mt0)
section
variable {X : Cx} {K : PySem.W.Frag}
theorem cr_sumK (hK : X.K = K) (hc : X.calm = true) : CallR X (.builtin "sum") (rSum K) := hK ▸ cr_sum hc
end
theorem sum_cast : ∀ ns : List Nat, (ns.map fun n => ((n : Nat) : Int)).sum = ((ns.sum : Nat) : Int)
  | [] => rfl
  | n :: ns => by rw [List.map_cons, List.sum_cons, List.sum_cons, sum_cast ns]; omega
/-! ### data of bonds -/
def bndD (t : Nat × Nat × Bool × Bool) : PyData := .tuple [.int (t.1 : Nat), .int (t.2.1 : Nat), .bool t.2.2.1, .bool t.2.2.2]
def bndT (t : Nat × Nat × Bool × Bool) : List V := [.int (t.1 : Nat), .int (t.2.1 : Nat), .bl t.2.2.1, .bl t.2.2.2]
theorem dp_bonds {K : PySem.W.Frag} {H : Hp} : ∀ {rs : List V} {L : List (Nat × Nat × Bool × Bool)}, Tups H rs (L.map bndT) → DpAll K H rs (L.map bndD)
  | [], [], _ => .nil
  | [], _ :: _, h => by have := h.1; simp at this
  | _ :: _, [], h => by have := h.1; simp at this
  | r :: rs, t :: L, h => by
    obtain ⟨b, rfl, hb⟩ := h.2 0 r _ rfl rfl
    exact .cons (.tup (st_of hb) (.cons (.int _) (.cons (.int _) (.cons (.bl _) (.cons (.bl _) .nil))))) (dp_bonds ⟨by have := h.1; simpa using this, fun i r u a b => h.2 (i + 1) r u a b⟩)
theorem lay_bonds : ∀ L : List (Nat × Nat × Bool × Bool), PyData.canLayAll0 (L.map bndD) = true
  | [] => by rw [List.map_nil]; simp [PyData.canLayAll0]
  | t :: L => by
    rw [List.map_cons]
    simp only [PyData.canLayAll0, bndD, PyData.canLay0, Bool.and_eq_true]
    refine ⟨?_, lay_bonds L⟩
    simp [PyData.canLayAll0, PyData.canLay0]
theorem depth_bonds : ∀ L : List (Nat × Nat × Bool × Bool), PyData.depthAll (L.map bndD) ≤ 2
  | [] => by rw [List.map_nil]; simp [PyData.depthAll]
  | t :: L => by
    have h1 := depth_bonds L
    rw [List.map_cons]
    simp only [PyData.depthAll, bndD, PyData.depth] at *
    omega
theorem shaped_bonds (L : List (Nat × Nat × Bool × Bool)) : SeqAt.shaped (.list (L.map bndD)) = true := by
  have h1 := depth_bonds L
  have h3 : PyData.depth (.list (L.map bndD)) ≤ 64 := by simp only [PyData.depth]; omega
  show (PyData.canLay0 (.list (L.map bndD)) && decide (PyData.depth (.list (L.map bndD)) ≤ 64)) = true
  rw [Bool.and_eq_true]
  exact ⟨by simp only [PyData.canLay0]; exact lay_bonds L, decide_eq_true h3⟩
theorem bonds_T {size : Nat} {fm : List Nat} : ∃ L : List (Nat × Nat × Bool × Bool), bondsL size fm size = L.map bndT := by
  have go : ∀ M : List (List V), (∀ t ∈ M, ∃ u, t = bndT u) → ∃ L : List (Nat × Nat × Bool × Bool), M = L.map bndT := by
    intro M
    induction M with
    | nil => exact fun _ => ⟨[], rfl⟩
    | cons t M ih =>
      intro h
      obtain ⟨u, hu⟩ := h t List.mem_cons_self
      obtain ⟨L, hL⟩ := ih fun t ht => h t (List.mem_cons_of_mem _ ht)
      exact ⟨u :: L, by rw [hu, hL]; rfl⟩
  exact go _ fun t ht => by
    obtain ⟨x, y, _, _, _, rfl⟩ := bonds_form.mp ht
    exact ⟨(x, y, _, _), rfl⟩
theorem FamAt.sbd {H H' : Hp} {d a CF : Addr} {size : Nat} {fm : List Nat} (h : FamAt H CF a size fm) (D : DrawsAt H d) (s : SB d H H') : FamAt H' CF a size fm := by
  obtain ⟨dx, fs, tl, rs, h1, h2, h3, h4, h5, h6⟩ := h
  exact ⟨dx, fs, tl, rs, s.kp _ _ (fun e => by obtain ⟨xs, D⟩ := D; rw [e, D] at h1; cases h1) h1, h2, h3, h4, s.tup D h5, h6.sb D s⟩
theorem FamIn.sbd {H H' : Hp} {d a CF : Addr} {fm : List Nat} (h : FamIn H CF a fm) (D : DrawsAt H d) (s : SB d H H') : FamIn H' CF a fm := by
  obtain ⟨dx, fs, q, h1, h2, h3, h4⟩ := h
  exact ⟨dx, fs, q, s.kp _ _ (fun e => by obtain ⟨xs, D⟩ := D; rw [e, D] at h1; cases h1) h1, h2, h3, s.kp _ _ (fun e => by obtain ⟨xs, D⟩ := D; rw [e, D] at h4; cases h4) h4⟩
section
variable {K : PySem.W.Frag} {σ : L2.St} {H : Hp} {ta tb te tl ts : TE} {v : V} {D : Ends} {tz tu : TS} {CF CA : Addr}
/-- Family(size, _law_lots(masks)) -/
theorem mk_fam {Q : VK} {size pm j : Nat} {ms : List Nat} {E : XK} (hs : Ev ts σ H (.int (size : Nat))) (hj : σ[j]? = some (some (.ref pm))) (hm : H pm = some (.lst (nv ms))) (h1 : 1 ≤ size) (h5 : size ≤ 5) (hl : ms.length ≤ 64) (hnd : ms.Nodup) (hne : ms ≠ []) (hb : ∀ m ∈ ms, m < 1 <<< size)
    (k : ∀ x H' fm, Ex H H' → fm.Perm ms → FamAt H' CF x size fm → FamIn H' CF x fm → FamOk size fm → Q (.ref x) H') : tMake CF (spFamI CF) [] C8.E0 (tCons ts (tCons (tCall (spLots K) [] E (tCons (tVar j) tNil)) tNil)) σ H Q := by
  have h64 := pow64 (n := size) (by omega)
  refine hs H (Ex.refl _) _ fun H1 e1 => ⟨.ref pm, hj, pm, ms, rfl, sq_of (e1 _ _ hm), hl, fun L l1 l2 r rs H5 hr e5 h5' L5 => fun x dx hx hdx hxd => ?_⟩
  obtain ⟨ms2, rfl, hms2⟩ := perm_lots l1 fun m hm => Nat.lt_of_lt_of_le (hb m hm) h64
  have e6 : Ex H5 (upd (upd H5 dx (.own x)) x (.ins CF dx [])) := fun b o h => by
    rw [upd_ne (fun e => by rw [e, hx] at h; cases h), upd_ne (fun e => by rw [e, hdx] at h; cases h)]; exact h
  refine ⟨x, r, dx, size, rs, ms2, rfl, upd_same, h1, h5, e6 _ _ h5', L5.ex e6, hms2.nodup_iff.mpr hnd, fun e => by rw [e] at hms2; exact hne hms2.nil_eq.symm, fun m hm => hb m (hms2.mem_iff.mp hm), by rw [hms2.length_eq]; exact hl, fun H7 fm xb hfm hpw fam fin => ⟨rfl, ?_⟩⟩
  have e7 : Ex H5 H7 := fun b o h => xb b o (fun e => by rw [e, hx] at h; cases h) (e6 _ _ h)
  have hperm : fm.Perm ms := hfm.trans hms2
  exact k x H7 fm (e1.trans (e5.trans e7)) hperm fam fin ⟨h1, h5, fun e => by rw [e] at hperm; exact hne hperm.nil_eq.symm, fun m hm => hb m (hperm.mem_iff.mp hm), by rw [hperm.length_eq]; exact hl⟩
/-! ### lists of lists -/
def Lists (H : Hp) (ps : List V) (Ls : List (List V)) : Prop := ps.length = Ls.length ∧ ∀ (i : Nat) (p : V) (l : List V), ps[i]? = some p → Ls[i]? = some l → ∃ b, p = .ref b ∧ H b = some (.lst l)
theorem Lists.ex {H H' : Hp} {ps : List V} {Ls : List (List V)} (h : Lists H ps Ls) (e : Ex H H') : Lists H' ps Ls := ⟨h.1, fun i p l a b => (h.2 i p l a b).elim fun c z => ⟨c, z.1, e _ _ z.2⟩⟩
def LA (ta : TA) (σ : L2.St) (H : Hp) (Ls : List (List V)) : Prop := ∀ H1, Ex H H1 → ∀ Q : List V → Hp → Prop, (∀ ps H2, Ex H1 H2 → Lists H2 ps Ls → (∀ b, V.ref b ∈ ps → H b = none) → Q ps H2) → ta σ H1 Q
theorem la_nil : LA tNil σ H [] := fun H1 e Q q => q [] H1 (Ex.refl _) ⟨rfl, fun i p l a _ => by simp at a⟩ (fun b h => by simp at h)
theorem la_cons {tr : TA} {xs : List V} {Ls : List (List V)} (h : EvL te σ H xs) (hr : LA tr σ H Ls) : LA (tCons te tr) σ H (xs :: Ls) := fun H1 e Q q => h H1 e _ fun p H2 hp e2 h2 => hr H2 (e.trans e2) _ fun ps H3 e3 L3 n3 => q _ H3 (e2.trans e3) ⟨by simp [L3.1], fun i r l a b => by
  cases i with
  | zero => cases a; cases b; exact ⟨p, rfl, e3 _ _ h2⟩
  | succ i => exact L3.2 i r l a b⟩ (fun b hb => by
  rcases List.mem_cons.mp hb with hb | hb
  · cases hb; exact fresh_back e hp
  · exact n3 b hb)
theorem ev_sumN {ns : List Nat} (h : EvL te σ H (nv ns)) : Ev (tCB (rSum K) (tCons te tNil)) σ H (.int (ns.sum : Nat)) := fun H1 e Q q => h H1 e _ fun p H2 hp e2 h2 => ⟨p, ns.map fun n => ((n : Nat) : Int), rfl, sq_of (by rw [h2]; unfold nv; rw [List.map_map]; rfl), by rw [sum_cast]; exact q H2 e2⟩
theorem q_forLL {ta : TA} {Ls : List (List V)} {j : Nat} (h : LA ta σ H Ls) (hl : Ls.length ≤ 1000) (k : ∀ u ps H1, H u = none → Ex H H1 → H1 u = some (.lst ps) → Lists H1 ps Ls → (∀ b, V.ref b ∈ ps → H b = none) → tSeq (tFor (iList K (tC (.ref u))) (gName j) tu) tz D σ H1) : tSeq (tFor (iList K (tLst ta)) (gName j) tu) tz D σ H :=
  h H (Ex.refl _) _ fun ps H1 e1 L1 n1 => ⟨sz_of (by rw [L1.1]; omega), fun l hl => k l ps _ (fresh_back e1 hl) (e1.trans (Ex.new hl)) upd_same (L1.ex (Ex.new hl)) n1⟩
theorem q_fam {size pm j i : Nat} {ms : List Nat} {E : XK} (hs : Ev ts σ H (.int (size : Nat))) (hj : σ[j]? = some (some (.ref pm))) (hm : H pm = some (.lst (nv ms))) (h1 : 1 ≤ size) (h5 : size ≤ 5) (hl : ms.length ≤ 64) (hnd : ms.Nodup) (hne : ms ≠ []) (hb : ∀ m ∈ ms, m < 1 <<< size)
    (k : ∀ x H' fm, Ex H H' → fm.Perm ms → FamAt H' CF x size fm → FamIn H' CF x fm → FamOk size fm → tz D (σ.set i (some (.ref x))) H') : tSeq (tAsg (tMake CF (spFamI CF) [] C8.E0 (tCons ts (tCons (tCall (spLots K) [] E (tCons (tVar j) tNil)) tNil))) (gName i)) tz D σ H :=
  mk_fam (Q := fun x H' => tz D (σ.set i (some x)) H') hs hj hm h1 h5 hl hnd hne hb k
end
theorem bnd_perm {size : Nat} {fm ms : List Nat} (h : ms.Perm fm) (x y : Nat) : bndB size ms x y = bndB size fm x y := by
  unfold bndB
  simp only [bond_perm h]
theorem mate_perm {size : Nat} {fm ms : List Nat} (h : ms.Perm fm) (x y : Nat) : mateB size ms x y = mateB size fm x y := by
  unfold mateB
  simp only [bond_perm h]
section
variable {P : Program} {w : World} {K : PySem.W.Frag} {mg : Str → Option Value} {base : Heap} {f : Addr} {fd : FuncData} {CF CA : Addr}
def spChecked (K : PySem.W.Frag) (CF : Addr) : Sp := fun vs H Q _ => ∃ (a p : Addr) (size step : Nat) (ms fm : List Nat), vs = [.ref a, .int size, .ref p, .int step] ∧ FamAt H CF a size fm ∧ FamIn H CF a fm ∧ FamOk size fm ∧ EX (· ∈ fm) ∧ SqL K H p (nv ms) ∧ ms.Perm fm ∧ RetV (.bl true) H Q
theorem sc_law_checked : FnScope ["_law_family_here", "_law_size", "_law_masks", "_law_step", "_law_found"] ["_law_family_here", "_law_size", "_law_masks", "_law_step"] (defScope (top 88)) := ⟨rfl, rfl, rfl, by decide +kernel, rfl, by decide +kernel, by decide +kernel⟩
theorem c_law_checked (C : FC K CF) (F : FnP K "_law_checked" (top 88) f fd) (g : mg "_law_checked" = some (.ref f)) (B : Bi mg) (c_law_bonds : Cal P w K mg base 2 "_law_bonds" (spLawBonds K) []) (c_bonds : Cal P w K mg base 7 "bonds" (spBonds CF) []) (c_law_lumped : Cal P w K mg base 9 "_law_lumped" (spLumped CF) []) (c_law_outside : Cal P w K mg base 7 "_law_outside" (spLawFam K CF) []) (c_law_common : Cal P w K mg base 7 "_law_common" (spLawFam K CF) []) : Cal P w K mg base 10 "_law_checked" (spChecked K CF) [] := by
  refine mkCal F g sc_law_checked (fun _ _ _ _ _ _ us hl => match us, hl with | [_, _, _, _], _ => rfl) (fun vs H Q E h => ?_) (fun cdv A outer s H vs Q E hr h => ?_)
  · obtain ⟨a, p, size, step, ms, fm, rfl, _⟩ := h
    rfl
  · obtain ⟨a, p, size, step, ms, fm, rfl, hf, hin, ok, hex, hp, hpm, q⟩ := h
    have hz := ok.s5
    refine ⟨_, (pss_cons (ps_set (i := 4) sc_law_checked.nd rfl (by first | exact Or.inl rfl | exact Or.inr rfl) (pe_c c_law_bonds hr (by decide) rfl (pa_cons (pv 1) (pa_cons (pv 2) pa_nil)))) (pss_cons (ps_if (PW.pt (pw_or (pt_cmpR (op_neD hr.units) (pe_c c_bonds hr (by decide) rfl (pa_cons (pv 0) pa_nil)) (pv 4) (nomark _)) (pw_or1 (pt_not (pt_val (pe_c c_law_lumped hr (by decide) rfl (pa_cons (pv 0) (pa_cons (pv 1) (pa_cons (pv 4) (pa_cons (pv 3) pa_nil)))))))))) (pss_one (ps_ret pe_bl)) pss_nil) (pss_one (ps_ret (pe_and (pe_c c_law_outside hr (by decide) rfl (pa_cons (pv 0) (pa_cons (pv 1) (pa_cons (pv 2) pa_nil)))) (pe_one (pe_c c_law_common hr (by decide) rfl (pa_cons (pv 0) (pa_cons (pv 1) (pa_cons (pv 2) pa_nil)))))))))), ?_⟩
    refine ⟨.int (size : Nat), rfl, .ref p, rfl, size, p, ms, fm, rfl, hz, hp, hpm, fun m hm => ok.lt m (hpm.mem_iff.mp hm), fun b rs H1 hb e1 h1 T1 => ?_⟩
    show tSeq _ _ _ [some (.ref a), some (.int size), some (.ref p), some (.int step), some (.ref b)] H1
    obtain ⟨BL, eBL⟩ := bonds_T (size := size) (fm := fm)
    have t1 : EvT (tTest (tOp (rNeD K) (tCall (spBonds CF) [] C8.E0 (tCons (tVar 0) tNil)) (tVar 4))) [some (.ref a), some (.int size), some (.ref p), some (.int step), some (.ref b)] H1 false := et_test fun H2 e2 Q2 q2 => by
      refine ⟨.ref a, rfl, a, size, fm, rfl, (hf.ex e1).ex e2, ok, fun b2 rs2 H3 hb2 e3 h3 T3 => ⟨.ref b, rfl, ?_⟩⟩
      have T1' := (T1.ex e2).ex e3
      rw [eBL] at T1' T3
      refine ⟨_, _, .lst (sq_of h3) (dp_bonds T3), .lst (sq_of (e3 _ _ (e2 _ _ h1))) (dp_bonds T1'), shaped_bonds BL, shaped_bonds BL, ?_⟩
      rw [eqv_self (shaped_bonds BL)]
      exact q2 H3 e3
    have t2 : EvT (tB (tCall (spLumped CF) [] C8.E0 (tCons (tVar 0) (tCons (tVar 1) (tCons (tVar 4) (tCons (tVar 3) tNil)))))) [some (.ref a), some (.int size), some (.ref p), some (.int step), some (.ref b)] H1 true := et_B (ev_call (z := .bl true) (ea_cons (ev_v 0) (ea_cons (ev_v 1) (ea_cons (ev_v 4) (ea_cons (ev_v 3) ea_nil)))) fun H2 e2 Q2 q2 E2 => ⟨a, b, size, step, fm, rs, rfl, (hf.ex e1).ex e2, ok, hex, e2 _ _ h1, T1.ex e2, q2⟩)
    refine q_when (b := false || !true) (et_or t1 fun _ => et_not t2) (fun hb => absurd hb (by decide)) (fun _ H2 e2 => ?_)
    have e12 := e1.trans e2
    refine s_ret (v := .bl (true && true)) (ev_andV (ev_call (ea_cons (ev_v 0) (ea_cons (ev_v 1) (ea_cons (ev_v 2) ea_nil))) fun H3 e3 Q3 q3 E3 => ⟨a, size, p, ms, fm, rfl, (hf.ex e12).ex e3, (hin.ex e12).ex e3, ok, hex, ex_l (e12.trans e3) hp, hpm, q3⟩) fun _ => ev_call (ea_cons (ev_v 0) (ea_cons (ev_v 1) (ea_cons (ev_v 2) ea_nil))) fun H3 e3 Q3 q3 E3 => ⟨a, size, p, ms, fm, rfl, (hf.ex e12).ex e3, (hin.ex e12).ex e3, ok, hex, ex_l (e12.trans e3) hp, hpm, q3⟩) fun H3 e3 => q H3 (e12.trans e3)
end
end W7
end
section
namespace W7
open PySem PySem.Spec PyProof.Rows L2 L3 Evl
open C8 (Cal pe_c Mak pe_mk Met pe_mt pe_mt0)
theorem q_ixNew {K : PySem.W.Frag} {σ : L2.St} {H : Hp} {D : Ends} {tz : TS} {tb : TE} {ta : TA} {Ls : List (List V)} {i : Nat} (h : LA ta σ H Ls) (hl : Ls.length ≤ 1000) (k : ∀ l ps H1, H l = none → Ex H H1 → H1 l = some (.lst ps) → Lists H1 ps Ls → (∀ b, V.ref b ∈ ps → H b = none) → tSeq (tAsg (tOp (rIxN K) (tC (.ref l)) tb) (gName i)) tz D σ H1) : tSeq (tAsg (tOp (rIxN K) (tLst ta) tb) (gName i)) tz D σ H :=
  h H (Ex.refl _) _ fun ps H1 e1 L1 n1 => ⟨sz_of (by rw [L1.1]; omega), fun l hl => k l ps _ (fresh_back e1 hl) (e1.trans (Ex.new hl)) upd_same (L1.ex (Ex.new hl)) n1⟩
theorem ret_cons {σ : L2.St} {H : Hp} {D : Ends} {sp : Sp} {E : XK} {te : TE} {tr : TA} (h : te σ H fun x H1 => tr σ H1 fun vs H2 => sp ((x :: vs) ++ []) H2 D.rt E) : tRet (tCall sp [] E (tCons te tr)) D σ H := h
section
variable {P : Program} {w : World} {K : PySem.W.Frag} {mg : Str → Option Value} {base : Heap} {f : Addr} {fd : FuncData} {CF CA : Addr}
def spTwelve : Sp := fun vs H Q _ => ∃ (a : Addr), vs = [.ref a] ∧ DrawsAt H a ∧ ∀ H', Q (.bl true) H'
theorem sc_law_twelve : FnScope ["_law_draws_here", "_law_order", "_law_lost", "_law_row", "_law_thing", "_law_lot_here", "_law_masks", "_law_number", "_law_family_here"] ["_law_draws_here"] (defScope (top 87)) := ⟨rfl, rfl, rfl, by decide +kernel, rfl, by decide +kernel, by decide +kernel⟩
theorem c_law_twelve (C : FC K CF) (F : FnP K "_law_twelve" (top 87) f fd) (g : mg "_law_twelve" = some (.ref f)) (B : Bi mg) (c_law_take : Cal P w K mg base 1 "_law_take" spTake []) (c_law_lots : Cal P w K mg base 2 "_law_lots" (spLots K) []) (m_Family : Mak P w K mg base 5 "Family" CF (spFamI CF) []) (c_are_bonded : Cal P w K mg base 6 "are_bonded" (spPairB CF bndB) []) (c_are_mates : Cal P w K mg base 6 "are_mates" (spPairB CF mateB) []) : Cal P w K mg base 7 "_law_twelve" spTwelve [] := by
  refine mkCal F g sc_law_twelve (fun _ _ _ _ _ _ us hl => match us, hl with | [_], _ => rfl) (fun vs H Q E h => ?_) (fun cdv A outer s H vs Q E hr h => ?_)
  · obtain ⟨a, rfl, _⟩ := h
    rfl
  · obtain ⟨a, rfl, hd, q⟩ := h
    refine ⟨_, (pss_cons (ps_set (i := 1) sc_law_twelve.nd rfl (by first | exact Or.inl rfl | exact Or.inr rfl) (pe_ix (on_ix (K := K)) (pe_lst (pa_cons (pe_lst (pa_cons (pe_nat 0 pe_int) (pa_cons (pe_nat 1 pe_int) (pa_cons (pe_nat 2 pe_int) (pa_cons (pe_nat 3 pe_int) pa_nil))))) (pa_cons (pe_lst (pa_cons (pe_nat 3 pe_int) (pa_cons (pe_nat 1 pe_int) (pa_cons (pe_nat 0 pe_int) (pa_cons (pe_nat 2 pe_int) pa_nil))))) (pa_cons (pe_lst (pa_cons (pe_nat 1 pe_int) (pa_cons (pe_nat 2 pe_int) (pa_cons (pe_nat 3 pe_int) (pa_cons (pe_nat 0 pe_int) pa_nil))))) (pa_cons (pe_lst (pa_cons (pe_nat 2 pe_int) (pa_cons (pe_nat 0 pe_int) (pa_cons (pe_nat 3 pe_int) (pa_cons (pe_nat 1 pe_int) pa_nil))))) pa_nil))))) (pe_c c_law_take hr (by decide) rfl (pa_cons (pv 0) (pa_cons (pe_nat 4 pe_int) pa_nil))) (fun _ _ => rfl))) (pss_cons (ps_set (i := 2) sc_law_twelve.nd rfl (by first | exact Or.inl rfl | exact Or.inr rfl) (pe_lst pa_nil)) (pss_cons (ps_for PassesOwn.never rfl (pi_list (pe_lst (pa_cons (pe_lst pa_nil) (pa_cons (pe_lst (pa_cons (pe_nat 2 pe_int) pa_nil)) (pa_cons (pe_lst (pa_cons (pe_nat 1 pe_int) (pa_cons (pe_nat 3 pe_int) pa_nil))) (pa_cons (pe_lst (pa_cons (pe_nat 0 pe_int) (pa_cons (pe_nat 1 pe_int) (pa_cons (pe_nat 3 pe_int) pa_nil)))) pa_nil)))))) (pg_name (i := 3) sc_law_twelve.nd rfl (by first | exact Or.inl rfl | exact Or.inr rfl)) (pss_one (ps_expr (pe_bm PySem.F.plainAttrs_list PySem.F.slot_list_append PySem.F.type_list_append mt_append (pv 2) (pa_cons (pe_callB (cr_sumK (K := K) rfl rfl) (by rfl) B.sum (by decide +kernel) (pa_cons (pe_lc (own := [("_law_thing", 4)]) (g := gName 4) (by rfl) sc_law_twelve.nd (pi_list (pv 3)) (blkOk_by (own := [("_law_thing", 4)]) (N := ["_law_draws_here", "_law_order", "_law_lost", "_law_row", "_law_thing", "_law_lot_here", "_law_masks", "_law_number", "_law_family_here"]) (sc := defScope (top 87)) (by decide +kernel)) (fun _ _ _ _ _ => (pg_name (i := 4) sc_law_twelve.nd rfl (by first | exact Or.inl rfl | exact Or.inr rfl))) (fun _ _ _ _ _ => pts_nil) (fun _ _ _ _ _ => (pe_op on_shl (pe_nat 1 pe_int) (pe_ix (on_ix (K := K)) (pv 1) (pv 4) (fun _ _ => rfl))))) pa_nil)) pa_nil))))) (pss_cons (ps_set (i := 5) sc_law_twelve.nd rfl (by first | exact Or.inl rfl | exact Or.inr rfl) (pe_c c_law_take hr (by decide) rfl (pa_cons (pv 0) (pa_cons (pe_nat 16 pe_int) pa_nil)))) (pss_cons (ps_setLc (i := 6) (own := [("_law_number", 7)]) (g := gName 7) (by rfl) sc_law_twelve.nd rfl rfl (sw_true rfl rfl rfl (by decide +kernel)) (pi_range1 rfl B.range (pa_cons (pe_nat 16 pe_int) pa_nil)) (blkOk_by (own := [("_law_number", 7)]) (N := ["_law_draws_here", "_law_order", "_law_lost", "_law_row", "_law_thing", "_law_lot_here", "_law_masks", "_law_number", "_law_family_here"]) (sc := defScope (top 87)) (by decide +kernel)) (fun _ _ _ _ _ => (pg_name (i := 7) sc_law_twelve.nd rfl (by first | exact Or.inl rfl | exact Or.inr rfl))) (fun _ _ _ _ _ => (pts_one (pt_cmpR (op_notIn_seqK (K := K) rfl) (pv 7) (pv 2) rfl))) (fun _ _ _ _ _ => (pe_op on_xor (pv 7) (pv 5)))) (pss_cons (ps_set (i := 8) sc_law_twelve.nd rfl (by first | exact Or.inl rfl | exact Or.inr rfl) (pe_mk m_Family hr (by decide) rfl (pa_cons (pe_nat 4 pe_int) (pa_cons (pe_c c_law_lots hr (by decide) rfl (pa_cons (pv 6) pa_nil)) pa_nil)))) (pss_cons (ps_if (PW.pt (pw_or (pt_not (pt_val (pe_c c_are_bonded hr (by decide) rfl (pa_cons (pv 8) (pa_cons (pe_ix (on_ix (K := K)) (pv 1) (pe_nat 0 pe_int) (fun _ _ => rfl)) (pa_cons (pe_ix (on_ix (K := K)) (pv 1) (pe_nat 1 pe_int) (fun _ _ => rfl)) pa_nil)))))) (pw_or1 (pt_not (pt_val (pe_c c_are_bonded hr (by decide) rfl (pa_cons (pv 8) (pa_cons (pe_ix (on_ix (K := K)) (pv 1) (pe_nat 1 pe_int) (fun _ _ => rfl)) (pa_cons (pe_ix (on_ix (K := K)) (pv 1) (pe_nat 2 pe_int) (fun _ _ => rfl)) pa_nil))))))))) (pss_one (ps_ret pe_bl)) pss_nil) (pss_one (ps_ret (pe_and (pe_not (pe_c c_are_bonded hr (by decide) rfl (pa_cons (pv 8) (pa_cons (pe_ix (on_ix (K := K)) (pv 1) (pe_nat 0 pe_int) (fun _ _ => rfl)) (pa_cons (pe_ix (on_ix (K := K)) (pv 1) (pe_nat 2 pe_int) (fun _ _ => rfl)) pa_nil))))) (pe_one (pe_not (pe_c c_are_mates hr (by decide) rfl (pa_cons (pv 8) (pa_cons (pe_ix (on_ix (K := K)) (pv 1) (pe_nat 2 pe_int) (fun _ _ => rfl)) (pa_cons (pe_ix (on_ix (K := K)) (pv 1) (pe_nat 0 pe_int) (fun _ _ => rfl)) pa_nil)))))))))))))))), ?_⟩
    have l4 : ∀ (x y z u : Nat) (σ : L2.St) (H : Hp), EvL (tLst (tCons (tC (.int (x : Nat))) (tCons (tC (.int (y : Nat))) (tCons (tC (.int (z : Nat))) (tCons (tC (.int (u : Nat))) tNil))))) σ H (nv [x, y, z, u]) := fun x y z u σ H => el_lst (ea_cons ev_c (ea_cons ev_c (ea_cons ev_c (ea_cons ev_c ea_nil)))) (by show 4 ≤ 100000; decide)
    refine q_ixNew (K := K) (la_cons (l4 0 1 2 3 _ H) (la_cons (l4 3 1 0 2 _ H) (la_cons (l4 1 2 3 0 _ H) (la_cons (l4 2 0 3 1 _ H) la_nil)))) (by decide) fun l ps H2 hl e2 hl2 L2' n1 => ?_
    have d2 := hd.ex e2
    have hla : l ≠ a := SB.ne hd hl
    refine ⟨.ref a, rfl, a, 4, rfl, by decide, d2, fun r H3 hr3 s3 => ?_⟩
    have hps : r < ps.length := by rw [L2'.1]; exact hr3
    have hpv : ps[r]? = some ps[r] := List.getElem?_eq_some_iff.mpr ⟨hps, rfl⟩
    obtain ⟨b, eb, hb2⟩ := L2'.2 r _ (nv (ordsL.getD r [])) hpv (match r, hr3 with | 0, _ | 1, _ | 2, _ | 3, _ => rfl)
    rw [eb] at hpv
    have hba : b ≠ a := SB.ne hd (n1 b (List.mem_of_getElem? hpv))
    have hb3 := s3.kp _ _ hba hb2
    refine ⟨l, ps, r, .ref b, rfl, rfl, sq_of (s3.kp _ _ hla hl2), hpv, ?_⟩
    obtain ⟨ol, ob, o1, o2, o3⟩ := ords_ok r hr3
    have tok := twelve_ok r hr3
    generalize ordsL.getD r [] = o at hb3 ol ob o1 o2 o3 tok
    show tSeq _ _ _ [some (.ref a), some (.ref b), none, none, none, none, none, none, none] H3
    refine q_asgL (el_lst ea_nil (by decide)) fun c H4 hc e4 h4 => ?_
    have hca : c ≠ a := SB.ne s3.dr hc
    have hcb : b ≠ c := fun e => by rw [e, hc] at hb3; cases hb3
    have r0 : EvL (tLst tNil) [some (.ref a), some (.ref b), some (.ref c), none, none, none, none, none, none] H4 (nv []) := el_lst ea_nil (by decide)
    have r1 : EvL (tLst (tCons (tC (.int ((2 : Nat) : Int))) tNil)) [some (.ref a), some (.ref b), some (.ref c), none, none, none, none, none, none] H4 (nv [2]) := el_lst (ea_cons ev_c ea_nil) (by show 1 ≤ 100000; decide)
    have r2 : EvL (tLst (tCons (tC (.int ((1 : Nat) : Int))) (tCons (tC (.int ((3 : Nat) : Int))) tNil))) [some (.ref a), some (.ref b), some (.ref c), none, none, none, none, none, none] H4 (nv [1, 3]) := el_lst (ea_cons ev_c (ea_cons ev_c ea_nil)) (by show 2 ≤ 100000; decide)
    have r3 : EvL (tLst (tCons (tC (.int ((0 : Nat) : Int))) (tCons (tC (.int ((1 : Nat) : Int))) (tCons (tC (.int ((3 : Nat) : Int))) tNil)))) [some (.ref a), some (.ref b), some (.ref c), none, none, none, none, none, none] H4 (nv [0, 1, 3]) := el_lst (ea_cons ev_c (ea_cons ev_c (ea_cons ev_c ea_nil))) (by show 3 ≤ 100000; decide)
    refine q_forLL (K := K) (Ls := rowsT.map nv) (la_cons r0 (la_cons r1 (la_cons r2 (la_cons r3 la_nil)))) (by decide) fun u ps5 H5 hu e5 hu5 L5 n5 => ?_
    have h45 := e5 _ _ h4
    have b5 := e5 _ _ (e4 _ _ hb3)
    have d5 := (s3.dr.ex e4).ex e5
    have huc : u ≠ c := fun e => by rw [e, h4] at hu; cases hu
    refine q_forLn (xs := ps5) ev_c (sq_of hu5) (fun i σ H' => XB c H5 H' ∧ H' c = some (.lst (nv (lostF o i))) ∧ ∃ v3 v4, σ = [some (.ref a), some (.ref b), some (.ref c), v3, v4, none, none, none, none]) (fun H6 e6 => ⟨fun b o _ h => e6 _ _ h, e6 _ _ h45, _, _, rfl⟩) (fun i σ H' _ h => sq_of (h.1 _ _ huc hu5)) ?_ ?_
    · rintro i rv σ H6 hri ⟨x6, c6, v3, v4, rfl⟩
      have hi : i < (rowsT.map nv).length := by rw [← L5.1]; exact (List.getElem?_eq_some_iff.mp hri).1
      have hi4 : i < rowsT.length := by rw [List.length_map] at hi; exact hi
      have hn : rowsT[i]? = some rowsT[i] := List.getElem?_eq_some_iff.mpr ⟨hi4, rfl⟩
      obtain ⟨br, rfl, hbr⟩ := L5.2 i rv (nv rowsT[i]) hri (by rw [List.getElem?_map, hn]; rfl)
      have hbrc : br ≠ c := fun e => by have := n5 br (List.mem_of_getElem? hri); rw [e, h4] at this; cases this
      have hbr6 := x6 _ _ hbrc hbr
      have b6 := x6 _ _ hcb b5
      have hrow : ∀ th ∈ rowsT[i], th < 4 := (by decide : ∀ row ∈ rowsT, ∀ th ∈ row, th < 4) _ (List.getElem_mem hi4)
      have hrl : (rowsT[i]).length ≤ 3 := (by decide : ∀ row ∈ rowsT, row.length ≤ 3) _ (List.getElem_mem hi4)
      have htk : rowsT.take (i + 1) = rowsT.take i ++ [rowsT[i]] := by rw [List.take_add_one, hn]; rfl
      generalize rowsT[i] = row at hbr6 hrow hrl htk
      show tDrop _ _ [some (.ref a), some (.ref b), some (.ref c), some (.ref br), v4, none, none, none, none] H6
      have el := el_nats (K := K) (tl := tVar 3) (te := tOp (rN (fun a b => a < 64 ∧ b < 64) fun a b => .int ((a <<< b : Nat) : Int)) (tC (.int ((1 : Nat) : Int))) (tOp (rIxN K) (tVar 1) (tVar 4))) (t := tYes) (j := 4) (vs := [4]) (a := br) (ns := row) (σ := [some (.ref a), some (.ref b), some (.ref c), some (.ref br), v4, none, none, none, none]) (H := H6) (fun _ => true) (fun th => .int ((1 <<< o.getD th 0 : Nat) : Nat)) (ev_v 3) (sq_of hbr6) (by omega) (fun _ => rfl) (fun _ _ _ _ => et_yes) (fun th H7 e7 hth _ => ev_nc ev_c (ev_ix (sq_of (e7 _ _ b6)) (ev_v 1) (ev_v 4) (nv_getD (by rw [ol]; exact hrow th hth))) ⟨by decide, by have := ob th (hrow th hth); omega⟩)
      have ee : (row.filter fun _ => true).map (fun th => V.int ((1 <<< o.getD th 0 : Nat) : Nat)) = nv (row.map fun th => 1 <<< o.getD th 0) := by
        unfold nv
        rw [List.filter_eq_self.mpr (fun _ _ => rfl), List.map_map]; rfl
      rw [ee] at el
      refine s_app c6 (ev_v 2) (ev_sumN el) (by rw [nv_len]; unfold lostF; rw [List.length_map, List.length_take]; have : rowsT.length = 4 := rfl; omega) fun H7 e7 => ⟨(x6.ex e7).up, ?_, _, _, rfl⟩
      rw [upd_same]
      unfold lostF
      rw [htk, List.map_append]
      unfold nv
      rw [List.map_append]; rfl
    · rintro σ H6 ⟨x6, c6, v3, v4, rfl⟩
      have hp4 : ps5.length = 4 := by rw [L5.1]; rfl
      rw [hp4] at c6
      have b6 := x6 _ _ hcb b5
      have d6 : DrawsAt H6 a := by
        obtain ⟨xs, hx⟩ := d5
        exact ⟨xs, x6 _ _ (fun e => hca e.symm) hx⟩
      show tSeq _ _ _ [some (.ref a), some (.ref b), some (.ref c), v3, v4, none, none, none, none] H6
      refine r_asg (a := a) d6 (er_take 0 er_c (by rintro n rfl; decide)) fun lot H7 hlot s7 => ?_
      have hlot : lot < 16 := by obtain ⟨_, rfl, h⟩ := hlot; exact h
      have c7 := s7.kp _ _ hca c6
      have b7 := s7.kp _ _ hba b6
      obtain ⟨⟨t1, t2, t3, t4⟩, t5, t6, t7⟩ := tok lot hlot
      have el := el_rng (ta := tCons (tC (.int ((16 : Nat) : Int))) tNil) (j := 7) (vs := [7]) (t := tTest (tOp (rIn K true) (tVar 7) (tVar 2))) (te := tOp (rN0 fun a b => .int ((a ^^^ b : Nat) : Int)) (tVar 7) (tVar 5)) (σ := [some (.ref a), some (.ref b), some (.ref c), v3, v4, some (.int (lot : Nat)), none, none, none]) (H := H7) (n := 16) (fun n => !decide (n ∈ lostF o 4)) (fun n => .int ((n ^^^ lot : Nat) : Nat)) (ea_cons ev_c ea_nil) (by decide) (fun _ => rfl) (fun n H8 e8 hn => et_is (et_test (ev_op (ev_v 7) (ev_v 2) (rv_niL (K := K) (sq_of (e8 _ _ c7)) rfl (nv_flat _)))) (by rw [inV_nat])) (fun n H8 e8 hn _ => ev_n (ev_v 7) (ev_v 5))
      have ee : ((List.range 16).filter fun n => !decide (n ∈ lostF o 4)).map (fun n => V.int ((n ^^^ lot : Nat) : Nat)) = nv (msT o lot) := by
        unfold nv msT
        rw [List.map_map]; rfl
      rw [ee] at el
      refine q_asgL el fun pm H8 hpm e8 h8 => ?_
      refine q_fam (K := K) (size := 4) (ev_c) rfl h8 (by decide) (by decide) (by omega) t5 (fun e => by rw [e] at t6; cases t6) t7 fun x H9 fm e9 hperm fam fin ok => ?_
      have b9 := e9 _ _ (e8 _ _ b7)
      have ix : ∀ (i : Nat), i < 4 → (nv o)[i]? = some (.int (o.getD i 0 : Nat)) := fun i hi => nv_getD (by rw [ol]; exact hi)
      have bn : ∀ (i j : Nat) (hi : i < 4) (hj : j < 4) (σ : L2.St) (H' : Hp), Ex H9 H' → o.getD i 0 ≠ o.getD j 0 → σ[8]? = some (some (.ref x)) → σ[1]? = some (some (.ref b)) → Ev (tCall (spPairB CF bndB) [] C8.E0 (tCons (tVar 8) (tCons (tOp (rIxN K) (tVar 1) (tC (.int (i : Nat)))) (tCons (tOp (rIxN K) (tVar 1) (tC (.int (j : Nat)))) tNil)))) σ H' (.bl (bndB 4 (msT o lot) (o.getD i 0) (o.getD j 0))) := fun i j hi hj σ H' e hne h8 h1 => ev_call (ea_cons (ev_v 8 h8) (ea_cons (ev_ix (sq_of (e _ _ b9)) (ev_v 1 h1) ev_c (ix i hi)) (ea_cons (ev_ix (sq_of (e _ _ b9)) (ev_v 1 h1) ev_c (ix j hj)) ea_nil))) fun H10 e10 Q10 q10 E10 => ⟨x, 4, fm, _, _, rfl, (fam.ex e).ex e10, ok, ob i hi, ob j hj, hne, by rw [← bnd_perm hperm.symm]; exact q10⟩
      refine q_when (b := !bndB 4 (msT o lot) (o.getD 0 0) (o.getD 1 0) || !bndB 4 (msT o lot) (o.getD 1 0) (o.getD 2 0)) (et_or (et_not (et_B (bn 0 1 (by decide) (by decide) _ H9 (Ex.refl _) o1 rfl rfl))) fun _ => et_not (et_B (bn 1 2 (by decide) (by decide) _ H9 (Ex.refl _) o2 rfl rfl))) (fun hb => absurd hb (by rw [t1, t2]; decide)) (fun _ H10 e10 => ?_)
      refine s_ret (v := .bl (!bndB 4 (msT o lot) (o.getD 0 0) (o.getD 2 0) && !mateB 4 (msT o lot) (o.getD 2 0) (o.getD 0 0))) (ev_andV (ev_notV (bn 0 2 (by decide) (by decide) _ H10 e10 o3 rfl rfl)) fun _ => ev_notV (ev_call (ea_cons (ev_v 8) (ea_cons (ev_ix (sq_of (e10 _ _ b9)) (ev_v 1) ev_c (ix 2 (by decide))) (ea_cons (ev_ix (sq_of (e10 _ _ b9)) (ev_v 1) ev_c (ix 0 (by decide))) ea_nil))) fun H11 e11 Q11 q11 E11 => ⟨x, 4, fm, _, _, rfl, (fam.ex e10).ex e11, ok, ob 2 (by decide), ob 0 (by decide), fun e => o3 e.symm, by rw [← mate_perm hperm.symm]; exact q11⟩)) fun H11 e11 => ?_
      rw [t3, t4]
      exact q H11
def spLaw (K : PySem.W.Frag) : Sp := fun vs H Q _ => ∃ (p : Addr) (ns : List Int), vs = [.ref p] ∧ SqL K H p (ns.map V.int) ∧ ns.length ≤ 100000 ∧ ∀ H', Q (.bl true) H'
theorem sc_law : FnScope ["_law_script", "_law_draws_here", "_law_most", "_law_drawn", "_law_size", "_law_masks"] ["_law_script"] (defScope (top 89)) := ⟨rfl, rfl, rfl, by decide +kernel, rfl, by decide +kernel, by decide +kernel⟩
theorem ok_law (C : FC K CF) (F : FnP K "law" (top 89) f fd) (B : Bi mg) (c_law_draws : Cal P w K mg base 1 "_law_draws" (spDraws K) []) (c_law_take : Cal P w K mg base 1 "_law_take" spTake []) (c_law_twelve : Cal P w K mg base 7 "_law_twelve" spTwelve []) (c_law_gated : Cal P w K mg base 5 "_law_gated" (spFamily GatedP) []) (c_law_lots : Cal P w K mg base 2 "_law_lots" (spLots K) []) (m_Family : Mak P w K mg base 5 "Family" CF (spFamI CF) []) (c_law_checked : Cal P w K mg base 10 "_law_checked" (spChecked K CF) []) : FnOk P w K mg base CX0 11 f fd ["_law_script"] (spLaw K) := by
  refine F.ok sc_law (fun vs H Q E h => ?_) (fun cdv A outer s H vs Q E hr h => ?_)
  · obtain ⟨p, ns, rfl, _⟩ := h
    rfl
  · obtain ⟨p, ns, rfl, hs, hz, q⟩ := h
    suffices hh : ∃ t, PSs (cxOf CX0 P w K mg base ["_law_script", "_law_draws_here", "_law_most", "_law_drawn", "_law_size", "_law_masks"] "law" (defScope (top 89)) f cdv A outer s H E).nox (defBody (top 89)) t ∧ t { nx := fun _ H' => Q .non H', rt := Q } (L2.start ["_law_script", "_law_draws_here", "_law_most", "_law_drawn", "_law_size", "_law_masks"] [.ref p]) H from hh.elim fun t z => ⟨t, z.1.nox, z.2⟩
    refine ⟨_, (pss_cons (ps_set (i := 1) sc_law.nd rfl (by first | exact Or.inl rfl | exact Or.inr rfl) (pe_c c_law_draws hr (by decide) rfl (pa_cons (pv 0) pa_nil))) (pss_cons (ps_if (pt_cmpR on_eq (pe_c c_law_take hr (by decide) rfl (pa_cons (pv 1) (pa_cons (pe_nat 6 pe_int) pa_nil))) (pe_nat 5 pe_int) (nomark _)) (pss_one (ps_ret (pe_c c_law_twelve hr (by decide) rfl (pa_cons (pv 1) pa_nil)))) pss_nil) (pss_cons (ps_set (i := 2) sc_law.nd rfl (by first | exact Or.inl rfl | exact Or.inr rfl) (pe_nat 4 pe_int)) (pss_cut (ps_if (pt_cmpR on_eq (pe_c c_law_take hr (by decide) rfl (pa_cons (pv 1) (pa_cons (pe_nat 6 pe_int) pa_nil))) (pe_nat 5 pe_int) (nomark _)) (pss_one (ps_set (i := 2) sc_law.nd rfl (by first | exact Or.inl rfl | exact Or.inr rfl) (pe_nat 5 pe_int))) pss_nil) (pss_cons (ps_set (i := 3) sc_law.nd rfl (by first | exact Or.inl rfl | exact Or.inr rfl) (pe_c c_law_gated hr (by decide) rfl (pa_cons (pv 1) (pa_cons (pv 2) pa_nil)))) (pss_cons (ps_set (i := 4) sc_law.nd rfl (by first | exact Or.inl rfl | exact Or.inr rfl) (pe_ix (on_ix (K := K)) (pv 3) (pe_nat 0 pe_int) (fun _ _ => rfl))) (pss_cons (ps_set (i := 5) sc_law.nd rfl (by first | exact Or.inl rfl | exact Or.inr rfl) (pe_ix (on_ix (K := K)) (pv 3) (pe_nat 1 pe_int) (fun _ _ => rfl))) (pss_one (ps_ret (pe_c c_law_checked hr (by decide) rfl (pa_cons (pe_mk m_Family hr (by decide) rfl (pa_cons (pv 4) (pa_cons (pe_c c_law_lots hr (by decide) rfl (pa_cons (pv 5) pa_nil)) pa_nil))) (pa_cons (pv 4) (pa_cons (pv 5) (pa_cons (pe_c c_law_take hr (by decide) rfl (pa_cons (pv 1) (pa_cons (pe_nat 8 pe_int) pa_nil))) pa_nil)))))))))))))), ?_⟩
    refine ⟨.ref p, rfl, p, ns, rfl, hs, hz, fun d H1 hd e1 hD => ?_⟩
    refine ⟨.ref d, rfl, d, 6, rfl, by decide, hD, fun r1 H2 hr1 s2 => ⟨r1, 5, rfl, rfl, _, rfl, ?_⟩⟩
    refine ite2 (fun hb => ⟨.ref d, rfl, d, rfl, s2.dr, fun H' => q H'⟩) (fun _ => ?_)
    show tSeq _ _ _ [some (.ref p), some (.ref d), none, none, none, none] H2
    refine q_set (x := .int ((4 : Nat) : Int)) ev_c fun H3 e3 => ?_
    have s3 := s2.ex e3
    refine q_cut (M := fun σ' H' => SB d H1 H' ∧ ∃ mo : Nat, 1 ≤ mo ∧ mo ≤ 5 ∧ σ' = [some (.ref p), some (.ref d), some (.int (mo : Nat)), none, none, none]) ?_ ?_
    · refine ⟨.ref d, rfl, d, 6, rfl, by decide, s3.dr, fun r2 H4 hr2 s4 => ⟨r2, 5, rfl, rfl, _, rfl, ?_⟩⟩
      refine ite2 (fun hb => ?_) (fun _ => ⟨s3.trans s4, 4, by decide, by decide, rfl⟩)
      exact s_asg (v := .int ((5 : Nat) : Int)) ev_c fun H5 e5 => ⟨(s3.trans s4).ex e5, 5, by decide, by decide, rfl⟩
    · rintro σ' H4 ⟨s4, mo, m1, m5, rfl⟩
      refine ⟨.ref d, rfl, .int (mo : Nat), rfl, d, mo, rfl, m1, m5, s4.dr, fun size ms pd pm H5 z1 z5 gm hne hg hpd hpmd s5 h1 h2 => ?_⟩
      have h64 := pow64 (n := size) (by omega)
      have hml := good_len gm (by omega)
      show tSeq _ _ _ [some (.ref p), some (.ref d), some (.int (mo : Nat)), some (.ref pd), none, none] H5
      refine q_asg (ev_ix (sq_of h1) (ev_v 3) ev_c rfl) fun H6 e6 => ?_
      refine q_asg (ev_ix (sq_of (e6 _ _ h1)) (ev_v 3) ev_c rfl) fun H7 e7 => ?_
      have m7 := e7 _ _ (e6 _ _ h2)
      have D7 := (s5.dr.ex e6).ex e7
      have hnd : ms.Nodup := gm.1.imp fun h => by omega
      refine ret_cons (mk_fam (K := K) (j := 5) (size := size) (ev_v 4) rfl m7 z1 z5 hml hnd hne gm.2 fun x H8 fm e8 hperm fam fin ok => ?_)
      have hex : EX (· ∈ fm) := (EX_of_gated gm.2 hg).iff fun n => hperm.mem_iff.symm
      have D8 := D7.ex e8
      refine ⟨.int (size : Nat), rfl, .ref pm, rfl, .ref d, rfl, d, 8, rfl, by decide, D8, fun r3 H9 hr3 s9 => ?_⟩
      exact ⟨x, pm, size, r3, ms, fm, rfl, fam.sbd D8 s9, fin.sbd D8 s9, ok, hex, sq_of (s9.kp _ _ hpmd (e8 _ _ m7)), hperm.symm, fun H10 e10 => q H10⟩
end
end W7
end
section
namespace W7
theorem chk5_0 : ((List.range 32).map fun i => 0 + i).all (chkW 5) = true := by decide +kernel
theorem chk5_1 : ((List.range 32).map fun i => 32 + i).all (chkW 5) = true := by decide +kernel
theorem chk5_2 : ((List.range 32).map fun i => 64 + i).all (chkW 5) = true := by decide +kernel
theorem chk5_3 : ((List.range 32).map fun i => 96 + i).all (chkW 5) = true := by decide +kernel
theorem chk5_4 : ((List.range 32).map fun i => 128 + i).all (chkW 5) = true := by decide +kernel
theorem chk5_5 : ((List.range 32).map fun i => 160 + i).all (chkW 5) = true := by decide +kernel
theorem chk5_6 : ((List.range 32).map fun i => 192 + i).all (chkW 5) = true := by decide +kernel
theorem chk5_7 : ((List.range 32).map fun i => 224 + i).all (chkW 5) = true := by decide +kernel
theorem chk5_8 : ((List.range 32).map fun i => 256 + i).all (chkW 5) = true := by decide +kernel
theorem chk5_9 : ((List.range 32).map fun i => 288 + i).all (chkW 5) = true := by decide +kernel
theorem chk5_10 : ((List.range 32).map fun i => 320 + i).all (chkW 5) = true := by decide +kernel
theorem chk5_11 : ((List.range 32).map fun i => 352 + i).all (chkW 5) = true := by decide +kernel
theorem chk5_12 : ((List.range 32).map fun i => 384 + i).all (chkW 5) = true := by decide +kernel
theorem chk5_13 : ((List.range 32).map fun i => 416 + i).all (chkW 5) = true := by decide +kernel
theorem chk5_14 : ((List.range 32).map fun i => 448 + i).all (chkW 5) = true := by decide +kernel
theorem chk5_15 : ((List.range 32).map fun i => 480 + i).all (chkW 5) = true := by decide +kernel
theorem chk5_16 : ((List.range 32).map fun i => 512 + i).all (chkW 5) = true := by decide +kernel
theorem chk5_17 : ((List.range 32).map fun i => 544 + i).all (chkW 5) = true := by decide +kernel
theorem chk5_18 : ((List.range 32).map fun i => 576 + i).all (chkW 5) = true := by decide +kernel
theorem chk5_19 : ((List.range 32).map fun i => 608 + i).all (chkW 5) = true := by decide +kernel
theorem chk5_20 : ((List.range 32).map fun i => 640 + i).all (chkW 5) = true := by decide +kernel
theorem chk5_21 : ((List.range 32).map fun i => 672 + i).all (chkW 5) = true := by decide +kernel
theorem chk5_22 : ((List.range 32).map fun i => 704 + i).all (chkW 5) = true := by decide +kernel
theorem chk5_23 : ((List.range 32).map fun i => 736 + i).all (chkW 5) = true := by decide +kernel
theorem chk5_24 : ((List.range 32).map fun i => 768 + i).all (chkW 5) = true := by decide +kernel
theorem chk5_25 : ((List.range 32).map fun i => 800 + i).all (chkW 5) = true := by decide +kernel
theorem chk5_26 : ((List.range 32).map fun i => 832 + i).all (chkW 5) = true := by decide +kernel
theorem chk5_27 : ((List.range 32).map fun i => 864 + i).all (chkW 5) = true := by decide +kernel
theorem chk5_28 : ((List.range 32).map fun i => 896 + i).all (chkW 5) = true := by decide +kernel
theorem chk5_29 : ((List.range 32).map fun i => 928 + i).all (chkW 5) = true := by decide +kernel
theorem chk5_30 : ((List.range 32).map fun i => 960 + i).all (chkW 5) = true := by decide +kernel
theorem chk5_31 : ((List.range 32).map fun i => 992 + i).all (chkW 5) = true := by decide +kernel
end W7
end
section
namespace W7
open PySem PySem.Spec PyProof.Rows L2 L3
theorem chk5_all : ∀ c, c < 1024 → chkW 5 c = true := by
  intro c hc
  have key : ∀ k : Nat, ((List.range 32).map fun i => k * 32 + i).all (chkW 5) = true → ∀ c, k * 32 ≤ c → c < k * 32 + 32 → chkW 5 c = true := fun k h c h1 h2 =>
    List.all_eq_true.mp h c (List.mem_map.mpr ⟨c - k * 32, List.mem_range.mpr (by omega), by omega⟩)
  by_cases h0 : c < 32
  · exact key 0 chk5_0 c (by omega) (by omega)
  by_cases h1 : c < 64
  · exact key 1 chk5_1 c (by omega) (by omega)
  by_cases h2 : c < 96
  · exact key 2 chk5_2 c (by omega) (by omega)
  by_cases h3 : c < 128
  · exact key 3 chk5_3 c (by omega) (by omega)
  by_cases h4 : c < 160
  · exact key 4 chk5_4 c (by omega) (by omega)
  by_cases h5 : c < 192
  · exact key 5 chk5_5 c (by omega) (by omega)
  by_cases h6 : c < 224
  · exact key 6 chk5_6 c (by omega) (by omega)
  by_cases h7 : c < 256
  · exact key 7 chk5_7 c (by omega) (by omega)
  by_cases h8 : c < 288
  · exact key 8 chk5_8 c (by omega) (by omega)
  by_cases h9 : c < 320
  · exact key 9 chk5_9 c (by omega) (by omega)
  by_cases h10 : c < 352
  · exact key 10 chk5_10 c (by omega) (by omega)
  by_cases h11 : c < 384
  · exact key 11 chk5_11 c (by omega) (by omega)
  by_cases h12 : c < 416
  · exact key 12 chk5_12 c (by omega) (by omega)
  by_cases h13 : c < 448
  · exact key 13 chk5_13 c (by omega) (by omega)
  by_cases h14 : c < 480
  · exact key 14 chk5_14 c (by omega) (by omega)
  by_cases h15 : c < 512
  · exact key 15 chk5_15 c (by omega) (by omega)
  by_cases h16 : c < 544
  · exact key 16 chk5_16 c (by omega) (by omega)
  by_cases h17 : c < 576
  · exact key 17 chk5_17 c (by omega) (by omega)
  by_cases h18 : c < 608
  · exact key 18 chk5_18 c (by omega) (by omega)
  by_cases h19 : c < 640
  · exact key 19 chk5_19 c (by omega) (by omega)
  by_cases h20 : c < 672
  · exact key 20 chk5_20 c (by omega) (by omega)
  by_cases h21 : c < 704
  · exact key 21 chk5_21 c (by omega) (by omega)
  by_cases h22 : c < 736
  · exact key 22 chk5_22 c (by omega) (by omega)
  by_cases h23 : c < 768
  · exact key 23 chk5_23 c (by omega) (by omega)
  by_cases h24 : c < 800
  · exact key 24 chk5_24 c (by omega) (by omega)
  by_cases h25 : c < 832
  · exact key 25 chk5_25 c (by omega) (by omega)
  by_cases h26 : c < 864
  · exact key 26 chk5_26 c (by omega) (by omega)
  by_cases h27 : c < 896
  · exact key 27 chk5_27 c (by omega) (by omega)
  by_cases h28 : c < 928
  · exact key 28 chk5_28 c (by omega) (by omega)
  by_cases h29 : c < 960
  · exact key 29 chk5_29 c (by omega) (by omega)
  by_cases h30 : c < 992
  · exact key 30 chk5_30 c (by omega) (by omega)
  by_cases h31 : c < 1024
  · exact key 31 chk5_31 c (by omega) (by omega)
  omega
theorem chk1 : (List.range 1).all (chkW 1) = true := by decide +kernel
theorem chk2 : (List.range 2).all (chkW 2) = true := by decide +kernel
theorem chk3 : (List.range 8).all (chkW 3) = true := by decide +kernel
theorem chk4 : (List.range 64).all (chkW 4) = true := by decide +kernel
theorem pairs_gated : PairGated := pair_gated fun size h1 h5 c hc => by
  match size, h1, h5 with
  | 1, _, _ => exact List.all_eq_true.mp chk1 c (List.mem_range.mpr hc)
  | 2, _, _ => exact List.all_eq_true.mp chk2 c (List.mem_range.mpr hc)
  | 3, _, _ => exact List.all_eq_true.mp chk3 c (List.mem_range.mpr hc)
  | 4, _, _ => exact List.all_eq_true.mp chk4 c (List.mem_range.mpr hc)
  | 5, _, _ => exact chk5_all c hc

theorem facts {P : Program} {w : World} {K : PySem.W.Frag} {h : Heap} {mg : Str → Option Value} {f : Addr} (X : K.In h) (G : h.Ns mainGlobals mg) (hfa : mg ("law" : Str) = some (.ref f)) (c : He.SaysD Hd.fa Hd.fn K) :
    ∃ fd : FuncData, (∀ (s : Shared) (v : Value), BindsTo s fd ⟨[v], []⟩ [("_law_script", v)]) ∧ ∀ base : Heap, K.In base → base.Ns mainGlobals mg → FnOk P w K mg base CX0 11 f fd ["_law_script"] (spLaw K) := by
  obtain ⟨fd0, F0⟩ := c.def_ 0 (d := Hd.d0) rfl
  have g0 := He.glo_ok X G (c.fact 0 (f := .glo "is_int") rfl)
  obtain ⟨fd1, F1⟩ := c.def_ 1 (d := Hd.d1) rfl
  have g1 := He.glo_ok X G (c.fact 1 (f := .glo "is_list") rfl)
  obtain ⟨fd2, F2⟩ := c.def_ 2 (d := Hd.d2) rfl
  have g2 := He.glo_ok X G (c.fact 2 (f := .glo "wrong_entry") rfl)
  obtain ⟨fd3, F3⟩ := c.def_ 3 (d := Hd.d3) rfl
  have g3 := He.glo_ok X G (c.fact 3 (f := .glo "is_lot") rfl)
  obtain ⟨fd4, F4⟩ := c.def_ 4 (d := Hd.d4) rfl
  have g4 := He.glo_ok X G (c.fact 4 (f := .glo "lot_of") rfl)
  obtain ⟨fd5, F5⟩ := c.def_ 5 (d := Hd.d5) rfl
  have g5 := He.glo_ok X G (c.fact 5 (f := .glo "is_thing") rfl)
  obtain ⟨fd6, F6⟩ := c.def_ 6 (d := Hd.d6) rfl
  have g6 := He.glo_ok X G (c.fact 6 (f := .glo "check_thing") rfl)
  obtain ⟨fd7, F7⟩ := c.def_ 7 (d := Hd.d7) rfl
  have g7 := He.glo_ok X G (c.fact 7 (f := .glo "check_two") rfl)
  obtain ⟨fd8, F8⟩ := c.def_ 8 (d := Hd.d8) rfl
  have g8 := He.glo_ok X G (c.fact 8 (f := .glo "mask_of") rfl)
  obtain ⟨fd9, F9⟩ := c.def_ 9 (d := Hd.d9) rfl
  have g9 := He.glo_ok X G (c.fact 9 (f := .glo "lot_from") rfl)
  obtain ⟨fd10, F10⟩ := c.def_ 10 (d := Hd.d10) rfl
  have g10 := He.glo_ok X G (c.fact 10 (f := .glo "lots_from") rfl)
  obtain ⟨fd11, F11⟩ := c.def_ 11 (d := Hd.d11) rfl
  have g11 := He.glo_ok X G (c.fact 11 (f := .glo "ordered_masks") rfl)
  obtain ⟨fd12, F12⟩ := c.def_ 12 (d := Hd.d12) rfl
  have g12 := He.glo_ok X G (c.fact 12 (f := .glo "mask_sums") rfl)
  obtain ⟨fd13, F13⟩ := c.def_ 13 (d := Hd.d13) rfl
  have g13 := He.glo_ok X G (c.fact 13 (f := .glo "thing_counts") rfl)
  obtain ⟨fd14, F14⟩ := c.def_ 14 (d := Hd.d14) rfl
  have g14 := He.glo_ok X G (c.fact 14 (f := .glo "family_masks") rfl)
  obtain ⟨fd15, F15⟩ := c.def_ 15 (d := Hd.d15) rfl
  have g15 := He.glo_ok X G (c.fact 15 (f := .glo "inside_row") rfl)
  obtain ⟨fd16, F16⟩ := c.def_ 16 (d := Hd.d16) rfl
  have g16 := He.glo_ok X G (c.fact 16 (f := .glo "depth_row") rfl)
  obtain ⟨fd17, F17⟩ := c.def_ 17 (d := Hd.d17) rfl
  have g17 := He.glo_ok X G (c.fact 17 (f := .glo "check_inside") rfl)
  obtain ⟨fd18, F18⟩ := c.def_ 18 (d := Hd.d18) rfl
  have g18 := He.glo_ok X G (c.fact 18 (f := .glo "nearest_masks") rfl)
  obtain ⟨fd19, F19⟩ := c.def_ 19 (d := Hd.d19) rfl
  have g19 := He.glo_ok X G (c.fact 19 (f := .glo "partners") rfl)
  obtain ⟨fd20, F20⟩ := c.def_ 20 (d := Hd.d20) rfl
  have g20 := He.glo_ok X G (c.fact 20 (f := .glo "lowering_mask") rfl)
  obtain ⟨fd21, F21⟩ := c.def_ 21 (d := Hd.d21) rfl
  have g21 := He.glo_ok X G (c.fact 21 (f := .glo "ungated_rows") rfl)
  obtain ⟨fd22, F22⟩ := c.def_ 22 (d := Hd.d22) rfl
  have g22 := He.glo_ok X G (c.fact 22 (f := .glo "first_break") rfl)
  obtain ⟨fd23, F23⟩ := c.def_ 23 (d := Hd.d23) rfl
  have g23 := He.glo_ok X G (c.fact 23 (f := .glo "find_break") rfl)
  obtain ⟨fd24, F24⟩ := c.def_ 24 (d := Hd.d24) rfl
  have g24 := He.glo_ok X G (c.fact 24 (f := .glo "needs_gated") rfl)
  obtain ⟨fd25, F25⟩ := c.def_ 25 (d := Hd.d25) rfl
  have g25 := He.glo_ok X G (c.fact 25 (f := .glo "changes") rfl)
  obtain ⟨fd26, F26⟩ := c.def_ 26 (d := Hd.d26) rfl
  have g26 := He.glo_ok X G (c.fact 26 (f := .glo "lowers") rfl)
  obtain ⟨fd27, F27⟩ := c.def_ 27 (d := Hd.d27) rfl
  have g27 := He.glo_ok X G (c.fact 27 (f := .glo "bases_at") rfl)
  obtain ⟨fd28, F28⟩ := c.def_ 28 (d := Hd.d28) rfl
  have g28 := He.glo_ok X G (c.fact 28 (f := .glo "independent_row") rfl)
  obtain ⟨fd29, F29⟩ := c.def_ 29 (d := Hd.d29) rfl
  have g29 := He.glo_ok X G (c.fact 29 (f := .glo "circuit_masks") rfl)
  obtain ⟨fd30, F30⟩ := c.def_ 30 (d := Hd.d30) rfl
  have g30 := He.glo_ok X G (c.fact 30 (f := .glo "put_together") rfl)
  obtain ⟨fd31, F31⟩ := c.def_ 31 (d := Hd.d31) rfl
  have g31 := He.glo_ok X G (c.fact 31 (f := .glo "check_family_size") rfl)
  obtain ⟨fd32, F32⟩ := c.def_ 32 (d := Hd.d32) rfl
  have g32 := He.glo_ok X G (c.fact 32 (f := .glo "checked_rows") rfl)
  obtain ⟨fd33, F33⟩ := c.def_ 33 (d := Hd.d33) rfl
  have g33 := He.glo_ok X G (c.fact 33 (f := .glo "first_raising") rfl)
  obtain ⟨fd34, F34⟩ := c.def_ 34 (d := Hd.d34) rfl
  have g34 := He.glo_ok X G (c.fact 34 (f := .glo "peaks") rfl)
  obtain ⟨fd35, F35⟩ := c.def_ 35 (d := Hd.d35) rfl
  have g35 := He.glo_ok X G (c.fact 35 (f := .glo "is_bonded") rfl)
  obtain ⟨fd36, F36⟩ := c.def_ 36 (d := Hd.d36) rfl
  have g36 := He.glo_ok X G (c.fact 36 (f := .glo "bond_sort") rfl)
  obtain ⟨fd37, F37⟩ := c.def_ 37 (d := Hd.d37) rfl
  have g37 := He.glo_ok X G (c.fact 37 (f := .glo "bond_lots") rfl)
  obtain ⟨fd38, F38⟩ := c.def_ 38 (d := Hd.d38) rfl
  have g38 := He.glo_ok X G (c.fact 38 (f := .glo "are_rivals") rfl)
  obtain ⟨fd39, F39⟩ := c.def_ 39 (d := Hd.d39) rfl
  have g39 := He.glo_ok X G (c.fact 39 (f := .glo "are_mates") rfl)
  obtain ⟨fd40, F40⟩ := c.def_ 40 (d := Hd.d40) rfl
  have g40 := He.glo_ok X G (c.fact 40 (f := .glo "are_bonded") rfl)
  obtain ⟨fd41, F41⟩ := c.def_ 41 (d := Hd.d41) rfl
  have g41 := He.glo_ok X G (c.fact 41 (f := .glo "bonds") rfl)
  obtain ⟨fd42, F42⟩ := c.def_ 42 (d := Hd.d42) rfl
  have g42 := He.glo_ok X G (c.fact 42 (f := .glo "_law_draws") rfl)
  obtain ⟨fd43, F43⟩ := c.def_ 43 (d := Hd.d43) rfl
  have g43 := He.glo_ok X G (c.fact 43 (f := .glo "_law_take") rfl)
  obtain ⟨fd44, F44⟩ := c.def_ 44 (d := Hd.d44) rfl
  have g44 := He.glo_ok X G (c.fact 44 (f := .glo "_law_bits") rfl)
  obtain ⟨fd45, F45⟩ := c.def_ 45 (d := Hd.d45) rfl
  have g45 := He.glo_ok X G (c.fact 45 (f := .glo "_law_lot") rfl)
  obtain ⟨fd46, F46⟩ := c.def_ 46 (d := Hd.d46) rfl
  have g46 := He.glo_ok X G (c.fact 46 (f := .glo "_law_lots") rfl)
  obtain ⟨fd47, F47⟩ := c.def_ 47 (d := Hd.d47) rfl
  have g47 := He.glo_ok X G (c.fact 47 (f := .glo "_law_inside") rfl)
  obtain ⟨fd48, F48⟩ := c.def_ 48 (d := Hd.d48) rfl
  have g48 := He.glo_ok X G (c.fact 48 (f := .glo "_law_listed") rfl)
  obtain ⟨fd49, F49⟩ := c.def_ 49 (d := Hd.d49) rfl
  have g49 := He.glo_ok X G (c.fact 49 (f := .glo "_law_sized") rfl)
  obtain ⟨fd50, F50⟩ := c.def_ 50 (d := Hd.d50) rfl
  have g50 := He.glo_ok X G (c.fact 50 (f := .glo "_law_web") rfl)
  obtain ⟨fd51, F51⟩ := c.def_ 51 (d := Hd.d51) rfl
  have g51 := He.glo_ok X G (c.fact 51 (f := .glo "_law_paired") rfl)
  obtain ⟨fd52, F52⟩ := c.def_ 52 (d := Hd.d52) rfl
  have g52 := He.glo_ok X G (c.fact 52 (f := .glo "_law_turned") rfl)
  obtain ⟨fd53, F53⟩ := c.def_ 53 (d := Hd.d53) rfl
  have g53 := He.glo_ok X G (c.fact 53 (f := .glo "_law_joined") rfl)
  obtain ⟨fd54, F54⟩ := c.def_ 54 (d := Hd.d54) rfl
  have g54 := He.glo_ok X G (c.fact 54 (f := .glo "_law_breaks") rfl)
  obtain ⟨fd55, F55⟩ := c.def_ 55 (d := Hd.d55) rfl
  have g55 := He.glo_ok X G (c.fact 55 (f := .glo "_law_made") rfl)
  obtain ⟨fd56, F56⟩ := c.def_ 56 (d := Hd.d56) rfl
  have g56 := He.glo_ok X G (c.fact 56 (f := .glo "_law_family") rfl)
  obtain ⟨fd57, F57⟩ := c.def_ 57 (d := Hd.d57) rfl
  have g57 := He.glo_ok X G (c.fact 57 (f := .glo "_law_gated") rfl)
  obtain ⟨fd58, F58⟩ := c.def_ 58 (d := Hd.d58) rfl
  have g58 := He.glo_ok X G (c.fact 58 (f := .glo "_law_depths") rfl)
  obtain ⟨fd59, F59⟩ := c.def_ 59 (d := Hd.d59) rfl
  have g59 := He.glo_ok X G (c.fact 59 (f := .glo "_law_bonds") rfl)
  obtain ⟨fd60, F60⟩ := c.def_ 60 (d := Hd.d60) rfl
  have g60 := He.glo_ok X G (c.fact 60 (f := .glo "_law_marked") rfl)
  obtain ⟨fd61, F61⟩ := c.def_ 61 (d := Hd.d61) rfl
  have g61 := He.glo_ok X G (c.fact 61 (f := .glo "_law_lumped") rfl)
  obtain ⟨fd62, F62⟩ := c.def_ 62 (d := Hd.d62) rfl
  have g62 := He.glo_ok X G (c.fact 62 (f := .glo "_law_common") rfl)
  obtain ⟨fd63, F63⟩ := c.def_ 63 (d := Hd.d63) rfl
  have g63 := He.glo_ok X G (c.fact 63 (f := .glo "_law_outside") rfl)
  obtain ⟨fd64, F64⟩ := c.def_ 64 (d := Hd.d64) rfl
  have g64 := He.glo_ok X G (c.fact 64 (f := .glo "_law_twelve") rfl)
  obtain ⟨fd65, F65⟩ := c.def_ 65 (d := Hd.d65) rfl
  have g65 := He.glo_ok X G (c.fact 65 (f := .glo "_law_checked") rfl)
  obtain ⟨fd66, F66⟩ := c.def_ 66 (d := Hd.d66) rfl
  have g66 := He.glo_ok X G (c.fact 66 (f := .glo "law") rfl)
  obtain ⟨fd67, F67⟩ := c.def_ 67 (d := Hd.d67) rfl
  obtain ⟨fd68, F68⟩ := c.def_ 68 (d := Hd.d68) rfl
  obtain ⟨fd69, F69⟩ := c.def_ 69 (d := Hd.d69) rfl
  obtain ⟨fd70, F70⟩ := c.def_ 70 (d := Hd.d70) rfl
  obtain ⟨fd71, F71⟩ := c.def_ 71 (d := Hd.d71) rfl
  obtain ⟨fd72, F72⟩ := c.def_ 72 (d := Hd.d72) rfl
  obtain ⟨fd73, F73⟩ := c.def_ 73 (d := Hd.d73) rfl
  obtain ⟨fd74, F74⟩ := c.def_ 74 (d := Hd.d74) rfl
  obtain ⟨fd75, F75⟩ := c.def_ 75 (d := Hd.d75) rfl
  have gAt := He.glo_ok X G (c.fact 67 (f := .glo "At") rfl)
  have gFamily := He.glo_ok X G (c.fact 79 (f := .glo "Family") rfl)
  have B : Bi mg := ⟨He.free_ok X G (c.fact 87 (f := .free "len") rfl), He.free_ok X G (c.fact 88 (f := .free "min") rfl), He.free_ok X G (c.fact 89 (f := .free "max") rfl), He.free_ok X G (c.fact 90 (f := .free "int") rfl), He.free_ok X G (c.fact 91 (f := .free "range") rfl), He.free_ok X G (c.fact 92 (f := .free "sorted") rfl), He.free_ok X G (c.fact 93 (f := .free "tuple") rfl), He.free_ok X G (c.fact 94 (f := .free "list") rfl), He.free_ok X G (c.fact 95 (f := .free "set") rfl), He.free_ok X G (c.fact 96 (f := .free "isinstance") rfl), He.free_ok X G (c.fact 97 (f := .free "bool") rfl), He.free_ok X G (c.fact 98 (f := .free "enumerate") rfl), He.free_ok X G (c.fact 100 (f := .free "any") rfl), He.free_ok X G (c.fact 101 (f := .free "all") rfl), He.free_ok X G (c.fact 102 (f := .free "sum") rfl), He.free_ok X G (c.fact 103 (f := .free "reversed") rfl)⟩
  have C : FC K (He.ga K "Family") := ⟨He.cls_ok (c.fact 80 (f := .cls "Family") rfl), He.noat_ok (c.fact 86 (f := .noat "Family" "size") rfl), He.noat_ok (c.fact 85 (f := .noat "Family" "lots") rfl), He.noat_ok (c.fact 84 (f := .noat "Family" "_inside") rfl)⟩
  have CC : AC K (He.ga K "At") := ⟨He.cls_ok (c.fact 68 (f := .cls "At") rfl), He.noat_ok (c.fact 76 (f := .noat "At" "family") rfl), He.noat_ok (c.fact 77 (f := .noat "At" "lot") rfl), He.noat_ok (c.fact 75 (f := .noat "At" "_bases") rfl), He.noat_ok (c.fact 78 (f := .noat "At" "rank") rfl)⟩
  have e := hfa.symm.trans g66
  cases e
  have b := FunD.bindsA (ps := ["_law_script"]) F66 fun _ _ _ _ _ _ us hl => match us, hl with | [_], _ => rfl
  refine ⟨fd66, fun s v => b s [v] rfl, fun base _ _ => ?_⟩
  have k_c_law_bits := c_law_bits (P := P) (w := w) (base := base) F44 g44 B
  have k_c_law_lot := c_law_lot (P := P) (w := w) (base := base) F45 g45 B
  have k_c_law_lots := c_law_lots (P := P) (w := w) (base := base) F46 g46 B k_c_law_lot
  have k_c_law_inside := c_law_inside (P := P) (w := w) (base := base) F47 g47 B
  have k_c_law_listed := c_law_listed (P := P) (w := w) (base := base) F48 g48 B
  have k_c_law_sized := c_law_sized (P := P) (w := w) (base := base) F49 g49 B k_c_law_bits k_c_law_listed
  have k_c_law_turned := c_law_turned (P := P) (w := w) (base := base) F52 g52 B
  have k_c_law_joined := c_law_joined (P := P) (w := w) (base := base) F53 g53 B k_c_law_inside k_c_law_listed
  have k_c_law_take := c_law_take (P := P) (w := w) (base := base) F43 g43 B
  have k_c_law_web := c_law_web (P := P) (w := w) (base := base) F50 g50 B k_c_law_take
  have k_c_law_paired := c_law_paired (P := P) (w := w) (base := base) F51 g51 B k_c_law_listed
  have k_c_law_breaks := c_law_breaks (P := P) (w := w) (base := base) F54 g54 B k_c_law_inside
  have k_c_law_made := c_law_made (P := P) (w := w) (base := base) F55 g55 B k_c_law_take k_c_law_sized k_c_law_web k_c_law_paired k_c_law_joined
  have k_c_law_family := c_law_family (P := P) (w := w) (base := base) F56 g56 B k_c_law_take k_c_law_made k_c_law_inside k_c_law_listed k_c_law_turned
  have k_c_law_gated := c_law_gated (P := P) (w := w) (base := base) pairs_gated F57 g57 B k_c_law_take k_c_law_family k_c_law_breaks k_c_law_turned k_c_law_sized k_c_law_web k_c_law_paired k_c_law_joined
  have k_c_law_draws := c_law_draws (P := P) (w := w) (base := base) F42 g42 B
  have k_c_is_int := c_is_int (P := P) (w := w) (base := base) F0 g0 B
  have k_c_is_list := c_is_list (P := P) (w := w) (base := base) F1 g1 B
  have k_c_wrong_entry := c_wrong_entry (P := P) (w := w) (base := base) F2 g2 B k_c_is_int
  have k_c_is_lot := c_is_lot (P := P) (w := w) (base := base) F3 g3 B k_c_is_list k_c_wrong_entry
  have k_c_lot_of := c_lot_of (P := P) (w := w) (base := base) F4 g4 B k_c_is_list k_c_wrong_entry
  have k_c_mask_of := c_mask_of (P := P) (w := w) (base := base) F8 g8 B
  have k_c_lot_from := c_lot_from (P := P) (w := w) (base := base) F9 g9 B
  have k_c_lots_from := c_lots_from (P := P) (w := w) (base := base) F10 g10 B k_c_lot_from
  have k_c_mask_sums := c_mask_sums (P := P) (w := w) (base := base) F12 g12 B
  have k_c_thing_counts := c_thing_counts (P := P) (w := w) (base := base) F13 g13 B k_c_mask_sums
  have k_c_family_masks := c_family_masks (P := P) (w := w) (base := base) C F14 g14 B k_c_mask_of
  have k_c_inside_row := c_inside_row (P := P) (w := w) (base := base) C F15 g15 B k_c_family_masks
  have k_c_nearest_masks := c_nearest_masks (P := P) (w := w) (base := base) C F18 g18 B k_c_family_masks k_c_thing_counts
  have k_c_lowering_mask := c_lowering_mask (P := P) (w := w) (base := base) F20 g20 B k_c_mask_of
  have k_c_ungated_rows := c_ungated_rows (P := P) (w := w) (base := base) C F21 g21 B k_c_family_masks k_c_inside_row k_c_lowering_mask
  have k_c_first_break := c_first_break (P := P) (w := w) (base := base) C F22 g22 B k_c_mask_of k_c_lot_from
  have k_c_find_break := c_find_break (P := P) (w := w) (base := base) C F23 g23 B k_c_ungated_rows k_c_first_break
  have k_c_needs_gated := c_needs_gated (P := P) (w := w) (base := base) C F24 g24 B k_c_find_break
  have k_c_bases_at := c_bases_at (P := P) (w := w) (base := base) C F27 g27 B k_c_mask_of k_c_nearest_masks k_c_lots_from
  have k_m_depth := m_depth (P := P) (w := w) (mg := mg) (base := base) C (He.meth_ok (c.fact 83 (f := .meth "Family" "depth") rfl)) F75 B k_c_lot_of
  have k_m_At := m_At (P := P) (w := w) (base := base) C CC (He.mkr_ok (c.fact 69 (f := .mkr "At") rfl)) gAt F67 B k_c_lot_of k_c_needs_gated k_c_bases_at
  have k_c_check_family_size := c_check_family_size (P := P) (w := w) (base := base) F31 g31 B k_c_is_int
  have k_c_checked_rows := c_checked_rows (P := P) (w := w) (base := base) F32 g32 B k_c_is_list k_c_is_lot
  have k_m_Family := m_Family (P := P) (w := w) (base := base) C (He.mkr_ok (c.fact 81 (f := .mkr "Family") rfl)) gFamily F73 B k_c_check_family_size k_c_checked_rows
  have k_c_is_thing := c_is_thing (P := P) (w := w) (base := base) F5 g5 B k_c_is_int
  have k_c_check_thing := c_check_thing (P := P) (w := w) (base := base) F6 g6 B k_c_is_thing
  have k_c_depth_row := c_depth_row (P := P) (w := w) (base := base) C F16 g16 B k_c_inside_row
  have k_c_changes := c_changes (P := P) (w := w) (base := base) C F25 g25 B k_c_mask_of k_c_lot_of k_c_depth_row
  have k_c_lowers := c_lowers (P := P) (w := w) (base := base) C F26 g26 B k_c_changes
  have k_c_check_two := c_check_two (P := P) (w := w) (base := base) F7 g7 B k_c_check_thing
  have k_c_ordered_masks := c_ordered_masks (P := P) (w := w) (base := base) F11 g11 B
  have k_c_is_bonded := c_is_bonded (P := P) (w := w) (base := base) F35 g35 B
  have k_c_bond_sort := c_bond_sort (P := P) (w := w) (base := base) F36 g36 B
  have k_c_bond_lots := c_bond_lots (P := P) (w := w) (base := base) C F37 g37 B k_c_check_two k_c_inside_row k_c_ordered_masks k_c_lot_from k_c_is_bonded k_c_bond_sort
  have k_k_bond_lots := k_bond_lots (P := P) (w := w) (base := base) C F37 g37 B k_c_check_two k_c_inside_row k_c_ordered_masks k_c_lot_from k_c_is_bonded k_c_bond_sort
  have k_c_are_rivals := c_are_rivals (P := P) (w := w) (base := base) F38 g38 B k_k_bond_lots
  have k_c_are_mates := c_are_mates (P := P) (w := w) (base := base) F39 g39 B k_k_bond_lots
  have k_c_are_bonded := c_are_bonded (P := P) (w := w) (base := base) F40 g40 B k_c_bond_lots
  have k_c_bonds := c_bonds (P := P) (w := w) (base := base) C F41 g41 B k_c_are_rivals k_c_are_mates
  have k_c_first_raising := c_first_raising (P := P) (w := w) (base := base) F33 g33 B
  have k_c_peaks := c_peaks (P := P) (w := w) (base := base) C F34 g34 B k_c_needs_gated k_c_depth_row k_c_first_raising k_c_lots_from
  have k_m_has := m_has (P := P) (w := w) (mg := mg) (base := base) C (He.meth_ok (c.fact 82 (f := .meth "Family" "has") rfl)) F74 B k_c_lot_of
  have k_c_check_inside := c_check_inside (P := P) (w := w) (base := base) F17 g17 B k_m_has
  have k_c_partners := c_partners (P := P) (w := w) (base := base) C F19 g19 B k_c_lot_of k_c_mask_of k_c_check_thing k_c_check_inside k_c_inside_row k_c_lot_from
  have k_c_lot_ofP := c_lot_ofP (P := P) (w := w) (base := base) F4 g4 B k_c_is_list k_c_wrong_entry
  have k_m_bases := m_bases (P := P) (w := w) (mg := mg) (base := base) C CC (He.meth_ok (c.fact 70 (f := .meth "At" "bases") rfl)) F68 B
  have k_m_loops := m_loops (P := P) (w := w) (mg := mg) (base := base) C CC (He.meth_ok (c.fact 72 (f := .meth "At" "loops") rfl)) F70 B
  have k_c_independent_row := c_independent_row (P := P) (w := w) (base := base) F28 g28 B k_c_mask_of
  have k_c_circuit_masks := c_circuit_masks (P := P) (w := w) (base := base) F29 g29 B k_c_independent_row
  have k_c_put_together := c_put_together (P := P) (w := w) (base := base) F30 g30 B
  have k_m_circuits := m_circuits (P := P) (w := w) (mg := mg) (base := base) C CC (He.meth_ok (c.fact 71 (f := .meth "At" "circuits") rfl)) F69 B k_c_circuit_masks k_c_lots_from
  have k_m_lumps := m_lumps (P := P) (w := w) (mg := mg) (base := base) C CC (He.meth_ok (c.fact 74 (f := .meth "At" "lumps") rfl)) F72 B k_c_put_together k_m_circuits
  have k_m_coloops := m_coloops (P := P) (w := w) (mg := mg) (base := base) C CC (He.meth_ok (c.fact 73 (f := .meth "At" "coloops") rfl)) F71 B
  have k_c_law_depths := c_law_depths (P := P) (w := w) (base := base) F58 g58 B k_c_law_bits
  have k_c_law_bonds := c_law_bonds (P := P) (w := w) (base := base) F59 g59 B k_c_law_inside
  have k_c_law_outside := c_law_outside (P := P) (w := w) (base := base) C F63 g63 B k_c_law_depths k_c_law_lot k_c_lowers k_c_are_bonded k_c_are_rivals k_c_are_mates
  have k_c_law_common := c_law_common (P := P) (w := w) (base := base) C F62 g62 B k_c_law_inside k_c_law_lot k_c_partners
  have k_c_law_marked := c_law_marked (P := P) (w := w) (base := base) F60 g60 B
  have k_c_law_lumped := c_law_lumped (P := P) (w := w) (base := base) C CC F61 g61 B k_c_peaks k_c_law_lot k_m_At k_m_lumps k_m_loops k_m_coloops k_c_law_marked
  have k_c_law_checked := c_law_checked (P := P) (w := w) (base := base) C F65 g65 B k_c_law_bonds k_c_bonds k_c_law_lumped k_c_law_outside k_c_law_common
  have k_c_law_twelve := c_law_twelve (P := P) (w := w) (base := base) C F64 g64 B k_c_law_take k_c_law_lots k_m_Family k_c_are_bonded k_c_are_mates
  exact ok_law C F66 B k_c_law_draws k_c_law_take k_c_law_twelve k_c_law_gated k_c_law_lots k_m_Family k_c_law_checked
end W7
open PySem PySem.W PySem.Calls PyProof.Rows
theorem PySem.Challenge.cw_turnlots_k56_lumps_peaks_and_bonds_holds : PySem.Challenge.rw_turnlots_k56_lumps_peaks_and_bonds.Holds := by
  w_on; o_law
  refine HandSHeadRun.head_any (r := OpenLaw.row PySem.Challenge.rw_turnlots_k56_lumps_peaks_and_bonds) (q := view (OpenLaw.row PySem.Challenge.rw_turnlots_k56_lumps_peaks_and_bonds).prog [89]) (H := Hd.hk) (ob := Hd.ob) (M := 20000) (loose := Hd.loose) (d := HandSHeadRun.topDef (OpenLaw.row PySem.Challenge.rw_turnlots_k56_lumps_peaks_and_bonds).prog 89) (kwd := []) Hd.ob_eq
    (by kernel_rfl) (fun s => by kernel_rfl) Hd.run (by kernel_rfl) (by kernel_rfl) (by kernel_rfl) (by rfl) (by first | assumption | decide +kernel) (by decide +kernel) ⟨rfl, rfl, rfl, rfl, rfl, by decide +kernel⟩ ?hw ?hc
  case hw => w_witness2
  case hc =>
    refine L2.walk_ofE (l := PySem.Challenge.rw_turnlots_k56_lumps_peaks_and_bonds) (n := 63) (k := 11) (x := "_law_script") (CX := L2.CX0) rfl (by decide) (by kernel_rfl) ⟨rfl, by decide, by decide⟩ ?F (fun _ _ _ _ z => z)
    intro w mg fa h Y G hmg0
    obtain ⟨K, KX, c⟩ := Y
    have hmg : mg ("law" : PySem.Str) = some (.ref fa) := by
      have e : (HandSHeadRun.topDef (OpenLaw.row PySem.Challenge.rw_turnlots_k56_lumps_peaks_and_bonds).prog 89).name = ("law" : PySem.Str) := by kernel_rfl
      rw [← e]
      exact hmg0
    obtain ⟨fd, hb, hF⟩ := W7.facts (P := (PySem.Challenge.rw_turnlots_k56_lumps_peaks_and_bonds).prog) (w := w) KX G hmg c
    exact ⟨K, fd, W7.spLaw K, KX, hb, fun H a ns hl _ hS => ⟨a, ns, rfl, hS, by omega, fun _ => rfl⟩, hF⟩
end
