import PyProof.Rows.All
import Wide.All
import OpenK.AllK
import Wide.FinOn
import KE.KStateDown
import HandS.Base
import HandS.Call
import HandS.Ends
import HandS.More
import HandS.Words
import HandS.WordsExc
import HandS.Defaults
import HandS.Head0
import HandS.Head1
import HandS.Head2
import HandS.HeadEnd
import HandS.HeadHook1
import HandS.HeadHook2
import HandS.Codes
import HandS.Slots
import HandS.SlotsOwn
import HandS.HeadNt
import HandS.ClsMeth
import KE.KExcInit
import HandS.ForMost
import HandS.SortOrd
import KE.KSortTup
import HandS.TupSets
import PyProof.Rows.BitMore
import KE.BitLaws
import KE.KBits
import HandS.WideBits
import PyProof.EqAt
import PyProof.EqKinds
import PyProof.TupleCall
import HandS.Set
import HandS.Strs
import HandS.SetFor
import HandS.Dict
import HandS.Iter
import KE.GoesComp
import KE.GoesMore
import HandS.SortInts
import HandS.IsInst
import HandS.Evl
import KE.GoesEnum
import HandS.Conv
import HandS.Deep
import HandS.TupAny
import HandS.DictComp
import PyProof.SeqIndex
import HandS.RevRange
import HandS.MakeKwOnly
import HandS.WordsList
import KE.DataMinMax
import KE.KOpsOwn
import HandS.Exc
import HandS.ExcOwn
import HandS.ExcField
import HandS.ExcIs
import HandS.SetBool
import KE.GoesSet
import KE.GoesCell
import KE.KExcIs
import HandS.NamedTupSort
import HandS.Style
import HandS.RevTup
import PySem.Challenge.RW_turnlots_k36_within_a_depth
set_option Elab.async false
set_option linter.all false
set_option maxRecDepth 100000
set_option maxHeartbeats 0
section
namespace Hd
open PySem PySem.Spec PyProof.Rows L2
def top (i : Nat) : Stmt := PySem.Challenge.pw_turnlots_k36_within_a_depth.main.body.getD i (.Pass ⟨0, 0, 0, 0⟩)

def loose0 : List PySem.Str := ["_wall", "LotsError", "BadLot", "BadFamily", "BadNumber", "OtherSize", "TooMany", "is_int", "is_list", "wrong_entry", "is_lot", "lot_of", "check_number", "check_any_number", "mask_of", "lot_from", "lots_from", "ordered_masks", "mask_sums", "thing_counts", "family_masks", "inside_row", "depth_row", "contains_one", "check_family_size", "checked_rows", "Family", "within", "just_at", "lowering_mask"]
def loose1 : List PySem.Str := ["ungated_rows", "first_break", "find_break", "is_gated", "depth_of", "deepest", "kept_between", "clash", "are_neighbours", "_law_draws", "_law_take", "_law_int", "_law_bits", "_law_lot", "_law_number", "_law_lots", "_law_inside", "_law_listed", "_law_sized", "_law_web", "_law_paired", "_law_turned", "_law_joined", "_law_breaks", "_law_made", "_law_family", "_law_depths", "_law_family_of", "_law_refused", "_law_is"]
def loose2 : List PySem.Str := ["_law_depths_in", "_law_just", "_law_doors"]
def loose : List PySem.Str := loose0 ++ loose1 ++ loose2
def d0 : He.DefD := ⟨("is_int", none), "is_int", "is_int", defArgs (top 9), defBody (top 9), defScope (top 9), [], []⟩
def d1 : He.DefD := ⟨("is_list", none), "is_list", "is_list", defArgs (top 10), defBody (top 10), defScope (top 10), [], []⟩
def d2 : He.DefD := ⟨("wrong_entry", none), "wrong_entry", "wrong_entry", defArgs (top 11), defBody (top 11), defScope (top 11), [], []⟩
def d3 : He.DefD := ⟨("is_lot", none), "is_lot", "is_lot", defArgs (top 12), defBody (top 12), defScope (top 12), [], []⟩
def d4 : He.DefD := ⟨("lot_of", none), "lot_of", "lot_of", defArgs (top 13), defBody (top 13), defScope (top 13), [], []⟩
def d5 : He.DefD := ⟨("check_number", none), "check_number", "check_number", defArgs (top 14), defBody (top 14), defScope (top 14), [], []⟩
def d6 : He.DefD := ⟨("check_any_number", none), "check_any_number", "check_any_number", defArgs (top 15), defBody (top 15), defScope (top 15), [], []⟩
def d7 : He.DefD := ⟨("mask_of", none), "mask_of", "mask_of", defArgs (top 17), defBody (top 17), defScope (top 17), [], []⟩
def d8 : He.DefD := ⟨("lot_from", none), "lot_from", "lot_from", defArgs (top 18), defBody (top 18), defScope (top 18), [], []⟩
def d9 : He.DefD := ⟨("lots_from", none), "lots_from", "lots_from", defArgs (top 19), defBody (top 19), defScope (top 19), [], []⟩
def d10 : He.DefD := ⟨("ordered_masks", none), "ordered_masks", "ordered_masks", defArgs (top 20), defBody (top 20), defScope (top 20), [], []⟩
def d11 : He.DefD := ⟨("mask_sums", none), "mask_sums", "mask_sums", defArgs (top 21), defBody (top 21), defScope (top 21), [], []⟩
def d12 : He.DefD := ⟨("thing_counts", none), "thing_counts", "thing_counts", defArgs (top 22), defBody (top 22), defScope (top 22), [], []⟩
def d13 : He.DefD := ⟨("family_masks", none), "family_masks", "family_masks", defArgs (top 23), defBody (top 23), defScope (top 23), [], []⟩
def d14 : He.DefD := ⟨("inside_row", none), "inside_row", "inside_row", defArgs (top 24), defBody (top 24), defScope (top 24), [], []⟩
def d15 : He.DefD := ⟨("depth_row", none), "depth_row", "depth_row", defArgs (top 25), defBody (top 25), defScope (top 25), [], []⟩
def d16 : He.DefD := ⟨("contains_one", none), "contains_one", "contains_one", defArgs (top 26), defBody (top 26), defScope (top 26), [], []⟩
def d17 : He.DefD := ⟨("check_family_size", none), "check_family_size", "check_family_size", defArgs (top 28), defBody (top 28), defScope (top 28), [], []⟩
def d18 : He.DefD := ⟨("checked_rows", none), "checked_rows", "checked_rows", defArgs (top 29), defBody (top 29), defScope (top 29), [], []⟩
def d19 : He.DefD := ⟨("within", none), "within", "within", defArgs (top 32), defBody (top 32), defScope (top 32), [], []⟩
def d20 : He.DefD := ⟨("just_at", none), "just_at", "just_at", defArgs (top 33), defBody (top 33), defScope (top 33), [], []⟩
def d21 : He.DefD := ⟨("lowering_mask", none), "lowering_mask", "lowering_mask", defArgs (top 35), defBody (top 35), defScope (top 35), [], []⟩
def d22 : He.DefD := ⟨("ungated_rows", none), "ungated_rows", "ungated_rows", defArgs (top 36), defBody (top 36), defScope (top 36), [], []⟩
def d23 : He.DefD := ⟨("first_break", none), "first_break", "first_break", defArgs (top 37), defBody (top 37), defScope (top 37), [], []⟩
def d24 : He.DefD := ⟨("find_break", none), "find_break", "find_break", defArgs (top 38), defBody (top 38), defScope (top 38), [], []⟩
def d25 : He.DefD := ⟨("is_gated", none), "is_gated", "is_gated", defArgs (top 39), defBody (top 39), defScope (top 39), [], []⟩
def d26 : He.DefD := ⟨("depth_of", none), "depth_of", "depth_of", defArgs (top 41), defBody (top 41), defScope (top 41), [], []⟩
def d27 : He.DefD := ⟨("deepest", none), "deepest", "deepest", defArgs (top 42), defBody (top 42), defScope (top 42), [], []⟩
def d28 : He.DefD := ⟨("kept_between", none), "kept_between", "kept_between", defArgs (top 44), defBody (top 44), defScope (top 44), [], []⟩
def d29 : He.DefD := ⟨("clash", none), "clash", "clash", defArgs (top 45), defBody (top 45), defScope (top 45), [], []⟩
def d30 : He.DefD := ⟨("are_neighbours", none), "are_neighbours", "are_neighbours", defArgs (top 46), defBody (top 46), defScope (top 46), [], []⟩
def d31 : He.DefD := ⟨("_law_draws", none), "_law_draws", "_law_draws", defArgs (top 48), defBody (top 48), defScope (top 48), [], []⟩
def d32 : He.DefD := ⟨("_law_take", none), "_law_take", "_law_take", defArgs (top 49), defBody (top 49), defScope (top 49), [], []⟩
def d33 : He.DefD := ⟨("_law_int", none), "_law_int", "_law_int", defArgs (top 50), defBody (top 50), defScope (top 50), [], []⟩
def d34 : He.DefD := ⟨("_law_bits", none), "_law_bits", "_law_bits", defArgs (top 51), defBody (top 51), defScope (top 51), [], []⟩
def d35 : He.DefD := ⟨("_law_lot", none), "_law_lot", "_law_lot", defArgs (top 52), defBody (top 52), defScope (top 52), [], []⟩
def d36 : He.DefD := ⟨("_law_number", none), "_law_number", "_law_number", defArgs (top 53), defBody (top 53), defScope (top 53), [], []⟩
def d37 : He.DefD := ⟨("_law_lots", none), "_law_lots", "_law_lots", defArgs (top 54), defBody (top 54), defScope (top 54), [], []⟩
def d38 : He.DefD := ⟨("_law_inside", none), "_law_inside", "_law_inside", defArgs (top 55), defBody (top 55), defScope (top 55), [], []⟩
def d39 : He.DefD := ⟨("_law_listed", none), "_law_listed", "_law_listed", defArgs (top 56), defBody (top 56), defScope (top 56), [], []⟩
def d40 : He.DefD := ⟨("_law_sized", none), "_law_sized", "_law_sized", defArgs (top 57), defBody (top 57), defScope (top 57), [], []⟩
def d41 : He.DefD := ⟨("_law_web", none), "_law_web", "_law_web", defArgs (top 58), defBody (top 58), defScope (top 58), [], []⟩
def d42 : He.DefD := ⟨("_law_paired", none), "_law_paired", "_law_paired", defArgs (top 59), defBody (top 59), defScope (top 59), [], []⟩
def d43 : He.DefD := ⟨("_law_turned", none), "_law_turned", "_law_turned", defArgs (top 60), defBody (top 60), defScope (top 60), [], []⟩
def d44 : He.DefD := ⟨("_law_joined", none), "_law_joined", "_law_joined", defArgs (top 61), defBody (top 61), defScope (top 61), [], []⟩
def d45 : He.DefD := ⟨("_law_breaks", none), "_law_breaks", "_law_breaks", defArgs (top 62), defBody (top 62), defScope (top 62), [], []⟩
def d46 : He.DefD := ⟨("_law_made", none), "_law_made", "_law_made", defArgs (top 63), defBody (top 63), defScope (top 63), [], []⟩
def d47 : He.DefD := ⟨("_law_family", none), "_law_family", "_law_family", defArgs (top 64), defBody (top 64), defScope (top 64), [], []⟩
def d48 : He.DefD := ⟨("_law_depths", none), "_law_depths", "_law_depths", defArgs (top 65), defBody (top 65), defScope (top 65), [], []⟩
def d49 : He.DefD := ⟨("_law_family_of", none), "_law_family_of", "_law_family_of", defArgs (top 66), defBody (top 66), defScope (top 66), [], []⟩
def d50 : He.DefD := ⟨("_law_refused", none), "_law_refused", "_law_refused", defArgs (top 67), defBody (top 67), defScope (top 67), [], []⟩
def d51 : He.DefD := ⟨("_law_is", none), "_law_is", "_law_is", defArgs (top 68), defBody (top 68), defScope (top 68), [], []⟩
def d52 : He.DefD := ⟨("_law_depths_in", none), "_law_depths_in", "_law_depths_in", defArgs (top 69), defBody (top 69), defScope (top 69), [], []⟩
def d53 : He.DefD := ⟨("_law_just", none), "_law_just", "_law_just", defArgs (top 70), defBody (top 70), defScope (top 70), [], []⟩
def d54 : He.DefD := ⟨("_law_doors", none), "_law_doors", "_law_doors", defArgs (top 71), defBody (top 71), defScope (top 71), [], []⟩
def d55 : He.DefD := ⟨("law", none), "law", "law", defArgs (top 72), defBody (top 72), defScope (top 72), [], []⟩
def d56 : He.DefD := ⟨("Family", some "__init__"), "__init__", "Family.__init__", defArgs (inClass (top 30) 0), defBody (inClass (top 30) 0), defScope (inClass (top 30) 0), [], []⟩
def d57 : He.DefD := ⟨("Family", some "__eq__"), "__eq__", "Family.__eq__", defArgs (inClass (top 30) 8), defBody (inClass (top 30) 8), defScope (inClass (top 30) 8), [], []⟩
def d58 : He.DefD := ⟨("Family", some "__add__"), "__add__", "Family.__add__", defArgs (inClass (top 30) 10), defBody (inClass (top 30) 10), defScope (inClass (top 30) 10), [], []⟩
def d59 : He.DefD := ⟨("Family", some "has"), "has", "Family.has", defArgs (inClass (top 30) 15), defBody (inClass (top 30) 15), defScope (inClass (top 30) 15), [], []⟩
def d60 : He.DefD := ⟨("Family", some "depth"), "depth", "Family.depth", defArgs (inClass (top 30) 16), defBody (inClass (top 30) 16), defScope (inClass (top 30) 16), [], []⟩
def d61 : He.DefD := ⟨("BadNumber", some "__init__"), "__init__", "BadNumber.__init__", defArgs (inClass (top 5) 0), defBody (inClass (top 5) 0), defScope (inClass (top 5) 0), [], []⟩
def fn : List He.DefD := [d0, d1, d2, d3, d4, d5, d6, d7, d8, d9, d10, d11, d12, d13, d14, d15, d16, d17, d18, d19, d20, d21, d22, d23, d24, d25, d26, d27, d28, d29, d30, d31, d32, d33, d34, d35, d36, d37, d38, d39, d40, d41, d42, d43, d44, d45, d46, d47, d48, d49, d50, d51, d52, d53, d54, d55, d56, d57, d58, d59, d60, d61]
def fa : List He.Fa := [.glo "is_int", .glo "is_list", .glo "wrong_entry", .glo "is_lot", .glo "lot_of", .glo "check_number", .glo "check_any_number", .glo "mask_of", .glo "lot_from", .glo "lots_from", .glo "ordered_masks", .glo "mask_sums", .glo "thing_counts", .glo "family_masks", .glo "inside_row", .glo "depth_row", .glo "contains_one", .glo "check_family_size", .glo "checked_rows", .glo "within", .glo "just_at", .glo "lowering_mask", .glo "ungated_rows", .glo "first_break", .glo "find_break", .glo "is_gated", .glo "depth_of", .glo "deepest", .glo "kept_between", .glo "clash", .glo "are_neighbours", .glo "_law_draws", .glo "_law_take", .glo "_law_int", .glo "_law_bits", .glo "_law_lot", .glo "_law_number", .glo "_law_lots", .glo "_law_inside", .glo "_law_listed", .glo "_law_sized", .glo "_law_web", .glo "_law_paired", .glo "_law_turned", .glo "_law_joined", .glo "_law_breaks", .glo "_law_made", .glo "_law_family", .glo "_law_depths", .glo "_law_family_of", .glo "_law_refused", .glo "_law_is", .glo "_law_depths_in", .glo "_law_just", .glo "_law_doors", .glo "law", .glo "Family", .mkr "Family", .cls "Family", .meth "Family" "__eq__", .meth "Family" "__add__", .meth "Family" "has", .meth "Family" "depth", .noat "Family" "_inside", .noat "Family" "lots", .noat "Family" "size", .glo "BadNumber", .glo "LotsError", .free "len", .free "min", .free "max", .free "int", .free "range", .free "sorted", .free "tuple", .free "list", .free "set", .free "isinstance", .free "bool", .free "enumerate", .free "abs", .free "any", .free "all", .free "sum", .free "reversed"]
/-- what else is looked at of a class: isinstance, that its own names come first, != by object.__ne__ -/
def insB (K : PySem.W.Frag) (C : Addr) : Bool :=
  He.eqO (PySem.W.findIn K (.ref C) "__class__") (some (some (.builtin "object.__class__"))) && (He.eqO (PySem.W.specialIn K (.builtin "object.__class__") "__get__") (some (some (.builtin "getset_descriptor.__get__"))) && (decide (PySem.W.takesIn K (.builtin "object.__class__") = some true) && (decide (PySem.W.mroIn K C (.type "object") = some true) && (decide (PySem.W.kitOne K (.ref C) (.ref C) = some true) && (PySem.W.selfFirst K C && He.eqO (PySem.W.findIn K (.ref C) "__ne__") (some (some (.builtin "object.__ne__"))))))))
structure InsD (K : PySem.W.Frag) (C : Addr) : Prop where
  ic : Cls K C → C8.InsC K C
  sf : PySem.W.selfFirst K C = true
  ne : PySem.W.findIn K (.ref C) "__ne__" = some (some (.builtin "object.__ne__"))
theorem insB_ok {K : PySem.W.Frag} {C : Addr} (h : insB K C = true) : InsD K C := by
  obtain ⟨h1, h⟩ := He.ba h
  obtain ⟨h2, h⟩ := He.ba h
  obtain ⟨h3, h⟩ := He.ba h
  obtain ⟨h4, h⟩ := He.ba h
  obtain ⟨h5, h⟩ := He.ba h
  obtain ⟨h6, h7⟩ := He.ba h
  exact ⟨fun cl => ⟨cl, He.eqO_ok h1, He.eqO_ok h2, of_decide_eq_true h3, of_decide_eq_true h4, of_decide_eq_true h5⟩, h6, He.eqO_ok h7⟩
/-- what is looked at of an own error class with one field, and of the class above it -/
def errB (K : PySem.W.Frag) (C L : Addr) (f : PySem.Str) : Bool :=
  PySem.W.excInitIn K C [.type "Exception", .type "BaseException", .type "object"] "Exception.__new__" && (PySem.W.excOver K C [.type "Exception", .type "BaseException", .type "object"] && (He.eqO (PySem.W.findIn K (.ref C) "__setattr__") (some (some (.builtin "object.__setattr__"))) && (decide (PySem.W.takerIn K C f = some none) && (He.eqO (PySem.W.findIn K (.ref C) f) (some none) && (PySem.W.keepIn K (.ref C) && (decide (PySem.W.subIn K (.ref C) (.type "BaseException") = some true) && (decide (PySem.W.typeIn K (.ref C) = some (.type "type")) && (PySem.W.hasDictIn K C && (He.eqO (PySem.W.findIn K (.ref C) "__init__") (some (some (.ref (He.ma K C "__init__")))) && (decide (PySem.W.typeIn K (.ref (He.ma K C "__init__")) = some (.type "function")) && (He.eqO (PySem.W.findIn K (.ref C) "__getattribute__") (some (some (.builtin "BaseException.__getattribute__"))) && (He.eqO (PySem.W.findIn K (.ref C) "__getattr__") (some none) && (He.eqO (PySem.W.findIn K (.ref C) "__class__") (some (some (.builtin "object.__class__"))) && (He.eqO (PySem.W.specialIn K (.builtin "object.__class__") "__get__") (some (some (.builtin "getset_descriptor.__get__"))) && (decide (PySem.W.takesIn K (.builtin "object.__class__") = some true) && (decide (PySem.W.mroIn K C (.type "object") = some true) && (decide (PySem.W.exmOne K (.ref C) (.ref C) = some true) && decide (PySem.W.kitOne K (.ref C) (.ref L) = some true))))))))))))))))))
/-- a classmethod: its record, its def -/
def cmP (K : PySem.W.Frag) (C : Addr) (m : PySem.Str) : Addr := match PySem.W.findCls K (.ref C) (.type "type") m with
  | some (.get (.builtin "classmethod.__get__") (.ref p) .none (.ref C')) => if C' = C then p else 0
  | _ => 0
def cmG (K : PySem.W.Frag) (p : Addr) : Addr := match PySem.W.recIn K p "classmethod" with
  | some (.ref g :: _) => g
  | _ => 0
def cmB (K : PySem.W.Frag) (C : Addr) (m : PySem.Str) : Bool :=
  (match PySem.W.findCls K (.ref C) (.type "type") m with
  | some (.get (.builtin b) (.ref p) .none (.ref C')) => decide (b = "classmethod.__get__") && decide (C' = C)
  | _ => false) && ((match PySem.W.recIn K (cmP K C m) "classmethod" with
  | some (.ref g :: _) => true
  | _ => false) && (PySem.W.fnIn K (cmG K (cmP K C m)) && (PySem.W.readsIn K C (.type "type") && He.eqO (PySem.W.specialIn K (.ref C) "__getattribute__") (some (some (.builtin "type.__getattribute__"))))))
def dA0 : He5.DefA := ⟨fun K => cmG K (cmP K (He.ga K "Family") "sized"), "sized", "Family.sized", defArgs (inClass (top 30) 3), defBody (inClass (top 30) 3), defScope (inClass (top 30) 3), [], []⟩
def moreB (K : PySem.W.Frag) : Bool := insB K (He.ga K "Family") && errB K (He.ga K "BadNumber") (He.ga K "LotsError") "name" && (cmB K (He.ga K "Family") "sized" && dA0.ok K)
abbrev R : PySem.W.OpenRow := PySem.W.OpenLaw.row PySem.Challenge.rw_turnlots_k36_within_a_depth
/-- what is looked at: a def's code and defaults, all that another object names; never the module itself again -/
def refsE (o : Obj) : List Addr := match o.data with
  | .func fd => He.refV fd.code ++ (He.refV fd.defaults ++ He.refV fd.kwdefaults)
  | _ => (He.refsD o).filter fun a => !(a == mainGlobals)
def growE (g : Addr → Option Obj) (as : List Addr) : List Addr := as.flatMap fun a => match g a with
  | some o => refsE o
  | none => []
def asE (g : Addr → Option Obj) : Nat → List Addr
  | 0 => [mainGlobals]
  | n + 1 => growE g (asE g n)
/-- the codes of the defs of a row -/
def growF (g : Addr → Option Obj) (as : List Addr) : List Addr := as.flatMap fun a => match g a with
  | some ⟨_, _, .func fd, _⟩ => He.refV fd.code
  | _ => []
def allE (g : Addr → Option Obj) : List Addr := match asE g 1 with
  | a1 => match growE g a1 with
    | a2 => match growE g a2 with
      | a3 => match growE g a3 with
        | a4 => mainGlobals :: cStatics :: (a1 ++ (a2 ++ (a3 ++ (a4 ++ growF g a4))))
def obsE (g : Addr → Option Obj) : He.AlD × Bool × He.FnW := (He.obsD fa fn (He.frG g (allE g)), moreB (He.frG g (allE g)), He5.fnA (He.frG g (allE g)) (dA0.at_ (He.frG g (allE g))))
def hk : PySem.W.Hook where
  α := He.AlD × Bool × He.FnW
  val := fun _ => (He.valD fn, true, dA0.val)
  obs := fun s => obsE s.heap.get?
  says := fun _ h => ∃ frag : PySem.W.Frag, frag.In h ∧ He.SaysD fa fn frag ∧ moreB frag = true ∧ He5.fnA frag (dA0.at_ frag) = dA0.val
  of := fun _ _ e => ⟨_, He.frG_in, congrArg Prod.fst e, congrArg (fun z => z.2.1) e, congrArg (fun z => z.2.2) e⟩
  keeps := fun _ _ _ says old => says.elim fun frag z => ⟨frag, z.1.keeps old, z.2⟩
def ob (s : PySem.W.SharedT) : He.AlD × Bool × He.FnW := obsE (HandSHeadRun.getT s)
theorem ob_eq (s : PySem.W.SharedT) : ob s = hk.obs s.abs := by
  have e : HandSHeadRun.getT s = s.abs.heap.get? := funext (HandSHeadRun.getT_eq s)
  show obsE (HandSHeadRun.getT s) = obsE s.abs.heap.get?
  rw [e]
theorem run (w : World) : HandSHeadRun.RunEq R (PySem.W.view R.prog [72]) hk ob 20000 loose w := by
  intro os
  kernel_rfl
end Hd
end
section
namespace L3
open PySem PySem.Spec PyProof.Rows L2

/-- v is a tuple of the ints ns -/
abbrev IsIT := TS.TupInts
theorem lex_iff : ∀ {a b : List Int}, HT.lexLt a b = true ↔ a < b
  | [], [] => by simp [HT.lexLt]
  | [], y :: ys => by simp [HT.lexLt]
  | x :: xs, [] => by simp [HT.lexLt]
  | x :: xs, y :: ys => by
    rw [HT.lexLt_cons, List.cons_lt_cons_iff]
    by_cases e : x = y
    · rw [if_pos e, lex_iff]
      constructor
      · intro h; exact .inr ⟨e, h⟩
      · rintro (h | ⟨_, h⟩)
        · omega
        · exact h
    · simp only [if_neg e, decide_eq_true_eq]
      constructor
      · intro h; exact .inl h
      · rintro (h | ⟨h, _⟩)
        · exact h
        · exact absurd h e
theorem lex_no {a b : List Int} : HT.lexLt a b = false ↔ b ≤ a := by
  rw [← Bool.not_eq_true, lex_iff, List.not_lt]
theorem swo_lex (k : Value → List Int) : SrtO.Swo fun v u => HT.lexLt (k v) (k u) where
  asym x y h := lex_no.mpr (List.le_of_lt (lex_iff.mp h))
  tr x y z h1 h2 := lex_no.mpr (List.le_trans (lex_no.mp h1) (lex_no.mp h2))
section
variable {prog : Program} {w : World} {A : Around} {E : Value → Shared → Prop} {s : Shared}
/-- ints one by one, until two differ or one row ends -/
theorem lex_walk {b : Bool} {Q : Bool → Shared → Prop} {xs ys : List Value} {ns ms : List Int} (hx : IntsAre xs ns) (hy : IntsAre ys ms) (i : Nat) (q : Q (HT.lexLt ns ms) s) : PySem.W.KatLex prog w A b (decide (xs.length < ys.length)) Q (xs.zip ys) i s := by
  induction hx generalizing ms ys i with
  | nil =>
    cases hy with
    | nil => exact q
    | cons m u _ =>
      show Q (decide (0 < _ + 1)) s
      rw [decide_eq_true (Nat.succ_pos _)]
      exact q
  | cons n t _ ih =>
    cases hy with
    | nil =>
      show Q (decide (_ + 1 < 0)) s
      rw [decide_eq_false (Nat.not_lt_zero _)]
      exact q
    | cons m u more =>
      have step := fun z => ih more (i + 1) z
      rw [HT.lexLt_cons] at q
      have len : ∀ (vs us : List Value), decide ((Value.int n t :: vs).length < (Value.int m u :: us).length) = decide (vs.length < us.length) := fun vs us => decide_eq_decide.mpr Nat.succ_lt_succ_iff
      rw [len]
      refine wpAny_eqBool_int ?_
      by_cases same : n = m
      · rw [if_pos same] at q
        rw [if_pos (beq_iff_eq.mpr same)]
        exact step q
      · rw [if_neg same] at q
        rw [if_neg (fun z => same (beq_iff_eq.mp z))]
        exact TS.oneLt_ints _ q
/-- a way to compare is told by what it says of two tuples of ints -/
theorem cmp_by {κ : SortKind} {vs : List Value} {k : Value → List Int} (hp : ∀ v ∈ vs, IsIT s.heap v (k v)) (one : ∀ (v u : Value) (ns ms : List Int) (Q : Bool → Shared → Prop), IsIT s.heap v ns → IsIT s.heap u ms → Q (HT.lexLt ns ms) s → wpAny (model prog w) A (keyLt' κ v u) Q (fun _ _ => False) s) :
    SrtO.Cmp prog w A s κ (fun p => p.1 ∈ vs) (SrtO.lt2 fun v u => HT.lexLt (k v) (k u)) :=
  fun p q mp mq => one p.1 q.1 _ _ _ (hp _ mp) (hp _ mq) ⟨rfl, rfl⟩
theorem cmp_tuples {vs : List Value} {k : Value → List Int} (hp : ∀ v ∈ vs, IsIT s.heap v (k v)) (b : Bool) : SrtO.Cmp prog w A s (tuples' b) (fun p => p.1 ∈ vs) (SrtO.lt2 fun v u => HT.lexLt (k v) (k u)) :=
  cmp_by hp fun v u ns ms Q hv hu q => by
    obtain ⟨x, xs, rfl, ⟨ox, gx, _, _, dx⟩, ix⟩ := hv
    obtain ⟨y, ys, rfl, ⟨oy, gy, _, _, dy⟩, iy⟩ := hu
    have walk := lex_walk (prog := prog) (w := w) (A := A) (b := b) ix iy 0 q
    rw [Array.length_toList, Array.length_toList] at walk
    exact PySem.W.kat_lt gx dx gy dy walk
theorem lt_IT {v u : Value} {ns ms : List Int} {Q : Value → Shared → Prop} (hv : IsIT s.heap v ns) (hu : IsIT s.heap u ms) (room : A.units < cLine) (q : Q (.bool (HT.lexLt ns ms)) s) : wpAny (model prog w) A (compareOp .Lt v u) Q E s := by
  obtain ⟨x, xs, rfl, tx, ix⟩ := hv
  obtain ⟨y, ys, rfl, ty, iy⟩ := hu
  exact HT.lt_tupInts tx ty ix iy room q
theorem cmp_general {vs : List Value} {k : Value → List Int} (hp : ∀ v ∈ vs, IsIT s.heap v (k v)) (room : A.units < cLine) : SrtO.Cmp prog w A s general' (fun p => p.1 ∈ vs) (SrtO.lt2 fun v u => HT.lexLt (k v) (k u)) :=
  cmp_by hp fun _ _ _ _ _ hv hu q => PySem.W.kat_one _ _ (lt_IT hv hu room q)
theorem lt_slot {v u : Value} {ns ms : List Int} {Q : Value → Shared → Prop} (hv : IsIT s.heap v ns) (hu : IsIT s.heap u ms) (q : Q (.bool (HT.lexLt ns ms)) s) : wpAny (model prog w) A (call (.builtin "tuple.__lt__") [v, u]) Q E s := by
  obtain ⟨x, xs, rfl, ⟨⟨_, dx, _, sx⟩, gx, rfl, nx, rfl⟩, ix⟩ := hv
  obtain ⟨y, ys, rfl, ⟨⟨_, dy, _, sy⟩, gy, rfl, ny, rfl⟩, iy⟩ := hu
  refine call_meets PySem.F.slot_tuple_lt ⟨_, gx, rfl⟩ PySem.F.entry_tuple_lt (PySem.F.args_tuple_lt_2 _ _) (HT.tuple_lt_ints x y xs ys nx ny dx dy sx sy ns ms ix iy) ?_
  exact ⟨gx, gy, q⟩
theorem cmp_one {vs : List Value} {k : Value → List Int} (hp : ∀ v ∈ vs, IsIT s.heap v (k v)) (room : A.units < cLine) : SrtO.Cmp prog w A s oneType' (fun p => p.1 ∈ vs) (SrtO.lt2 fun v u => HT.lexLt (k v) (k u)) :=
  cmp_by hp fun v u ns ms Q hv hu q => by
    have ty : s.TypeIs v "tuple" := by
      obtain ⟨x, _, rfl, ⟨o, g, c, _⟩, _⟩ := hv
      exact ⟨o, g, c⟩
    show wpAny (model prog w) A (oneLt' true v u) Q _ s
    rw [oneLt'_eq, if_pos rfl]
    exact wpAny_bind (wpAny_cRoomFor room (wpAny_bind (wpAny_callSpecialIfBound?_slot ty PySem.F.slot_tuple_lt (lt_slot hv hu (wpAny_truthy_bool q)))))
/-- a tuple is collected as it stands, into a list that was not there -/
theorem collect_tup {l : Addr} {vs : List Value} {Q : List Value → Shared → Prop} (hl : s.heap.IsTuple l vs.toArray) (hz : vs.length ≤ sizeLine)
    (h : ∀ h' : Heap, h'.objs.size = s.heap.objs.size + 1 → (∀ b o, s.heap.get? b = some o → h'.get? b = some o) → Q vs { s with heap := h' }) : wpAny (model prog w) A (collect (.ref l)) Q E s := by
  obtain ⟨o, h1, h2, n, h3⟩ := hl
  unfold collect
  refine wpAny_bind (wpAny_runValue (codeAny_builtin (id := "proto.collect") entry_proto_collect' ?_))
  rw [Around.under_plainId (by decide +kernel)]
  unfold Builtin.«proto.collect»
  dsimp only
  refine wpAny_bind (wpAny_newList (wpAny_pure ⟨by kernel_rfl, codeAny_builtin entry_list_iadd' ?_⟩))
  rw [Around.under_plainId (by decide +kernel)]
  unfold Builtin.«list.__iadd__»
  apply wpAny_bind (wpAny_pure _)
  have new := Heap.get?_push_size s.heap (o := { cls := .type "list", data := .seq #[] }) rfl
  have gives := Heap.get?_update_self (Obj.mapSeq (· ++ vs.toArray)) new rfl
  have kept : Q vs { s with heap := (s.heap.push { cls := .type "list", data := .seq #[] }).update s.heap.objs.size (Obj.mapSeq (· ++ vs.toArray)) } := by
    refine h _ ?_ fun b o e => (Heap.get?_update_other _ _ (Nat.ne_of_gt (Heap.lt_size e))).trans (Heap.get?_push_of_some _ e)
    simp [Heap.update, Heap.push]
  refine wpAny_mono (wpAny_extend_seq s.heap.objs.size l (.ref s.heap.objs.size) 0 (o := o) (n := n) (Or.inr rfl) new (Heap.get?_push_of_some _ h1) h2 h3 (R := fun r s' => r = .ok (.ret (.ref s.heap.objs.size)) ∧ s' = { s with heap := (s.heap.push { cls := .type "list", data := .seq #[] }).update s.heap.objs.size (Obj.mapSeq (· ++ vs.toArray)) }) ⟨rfl, rfl⟩ (hsz := by simpa using hz)) ?_ ?_
  · rintro (f | c) s' hh
    · obtain ⟨e, rfl⟩ := hh
      cases e
      refine wpAny_bind (wpAny_load gives (wpAny_pure ?_))
      simpa using kept
    · refine ⟨hh.1, codeAny_mono hh.2 fun r s' e => ?_⟩
      obtain ⟨rfl, rfl⟩ := e
      refine wpAny_bind (wpAny_load gives (wpAny_pure ?_))
      simpa using kept
  · rintro e s' ⟨z, _⟩
    cases z
open PyProof.Rows in
/-- sorted(v), whatever v is collected from -/
theorem sorted_from {v : Value} {vs : List Value} {ltv : Value → Value → Bool} {Q : Value → Shared → Prop} (O : SrtO.Swo ltv) (hz : vs.length ≤ sizeLine)
    (hc : ∀ (A : Around) (E : Value → Shared → Prop) (Q : List Value → Shared → Prop), (∀ h' : Heap, h'.objs.size = s.heap.objs.size + 1 → (∀ b o, s.heap.get? b = some o → h'.get? b = some o) → Q vs { s with heap := h' }) → wpAny (model prog w) A (collect v) Q E s)
    (hS : 2 ≤ vs.length → ∀ (h' : Heap) (a : Addr), h'.get? a = some (seqObj "list" vs.toArray 0) → (∀ b o, s.heap.get? b = some o → b ≠ a ∧ h'.get? b = some o) → SrtO.SortableO prog w A.in1.in1 { s with heap := h' } a vs ltv)
    (h : ∀ (out : List Value) (h' : Heap) (p : Addr) (e : Nat), SrtO.Srtd ltv out → SrtO.Stb ltv out vs → s.heap.objs.size ≤ p → (∀ b o, s.heap.get? b = some o → h'.get? b = some o) → h'.get? p = some (seqObj "list" out.toArray e) → Q (.ref p) { s with heap := h' }) :
    wpAny (model prog w) A (call (.builtin "sorted") [v]) Q E s := by
  have run : wpAny (model prog w) A.in1 (Builtin.«sorted» ⟨[v], []⟩) (fun fin s' => ∃ r, fin = .done (.ret r) ∧ Q r s') E s := by
    unfold Builtin.«sorted»
    refine wpAny_bind (wpAny_pure (wpAny_bind (hc _ _ _ fun h1 n1 k1 => wpAny_bind (wpAny_newList ?_ (by simpa using hz)))))
    have there := Heap.get?_push_size h1 (o := { cls := .type "list", data := .seq vs.toArray }) rfl
    have lt : s.heap.objs.size < h1.objs.size := by omega
    have keep2 : ∀ b o, s.heap.get? b = some o → b ≠ h1.objs.size ∧ (h1.push { cls := .type "list", data := .seq vs.toArray }).get? b = some o :=
      fun b o e => ⟨Nat.ne_of_lt (Nat.lt_trans (Heap.lt_size e) lt), Heap.get?_push_of_some _ (k1 b o e)⟩
    refine wpAny_bind (wpAny_holding (wpAny_call_entry slot_list_sort ⟨_, there, rfl⟩ entry_list_sort ?_ (PySem.F.args_list_sort_1 _)))
    refine SrtO.list_sort_ord O there hz (fun h2 => hS h2 _ _ there keep2) fun out so st => ⟨_, rfl, wpAny_pure ⟨_, rfl, ?_⟩⟩
    obtain ⟨e, he⟩ := sortedHeap_at (h := h1.push { cls := .type "list", data := .seq vs.toArray }) (vs := vs) (out := out.toArray) there
    exact h out _ _ e so st (Nat.le_of_lt lt) (fun b o z => (sortedHeap_old (keep2 b o z).1 (Heap.lt_size (keep2 b o z).2)).trans (keep2 b o z).2) he
  exact Calls.call_function_entry kind_sorted plain_sorted entry_sorted (args_sorted1 v) run
/-- a list is collected as it stands, too -/
theorem collect_lst {l : Addr} {vs : List Value} {Q : List Value → Shared → Prop} (hl : s.heap.IsList l vs.toArray) (hz : vs.length ≤ sizeLine)
    (h : ∀ h' : Heap, h'.objs.size = s.heap.objs.size + 1 → (∀ b o, s.heap.get? b = some o → h'.get? b = some o) → Q vs { s with heap := h' }) : wpAny (model prog w) A (collect (.ref l)) Q E s := by
  refine collect_list hl (h _ ?_ fun b o e => (Heap.get?_update_other _ _ (Nat.ne_of_gt (Heap.lt_size e))).trans (Heap.get?_push_of_some _ e)) hz
  simp [Heap.update, Heap.push]
end
section
variable {X : Cx} {σ : L2.St} {pins : List (Addr × Obj)} {H : Hp} {s : Shared}
/-- sorted of what stands at a list or a tuple: a new list, whose values are told by its order -/
theorem sorted_inv {a : Addr} {xs : List V} {ltv : Value → Value → Bool} {Q : VK} {E : Value → Shared → Prop} (I : Inv X pins σ H s) (O : SrtO.Swo ltv) (ha : SqL X.K H a xs ∨ SqT X.K H a xs)
    (hS : ∀ its : List Value, Vals xs its → 2 ≤ its.length → ∀ (h' : Heap) (b : Addr), h'.get? b = some (seqObj "list" its.toArray 0) → (∀ c o, s.heap.get? c = some o → c ≠ b ∧ h'.get? c = some o) → SrtO.SortableO X.prog X.w X.A.in1.in1 { s with heap := h' } b its ltv)
    (hv : ∀ its out : List Value, Vals xs its → SrtO.Srtd ltv out → SrtO.Stb ltv out its → ∃ ys, Vals ys out ∧ ∀ p, H p = none → Q (.ref p) (upd H p (.lst ys))) :
    wpAny (model X.prog X.w) X.A (call (.builtin "sorted") [.ref a]) (EP X pins σ Q) E s := by
  obtain ⟨its, rv, few, hc⟩ : ∃ its : List Value, Vals xs its ∧ xs.length ≤ sizeLine ∧ ∀ (A : Around) (E : Value → Shared → Prop) (Q : List Value → Shared → Prop), its.length ≤ sizeLine → (∀ h' : Heap, h'.objs.size = s.heap.objs.size + 1 → (∀ b o, s.heap.get? b = some o → h'.get? b = some o) → Q its { s with heap := h' }) → wpAny (model X.prog X.w) A (collect (.ref a)) Q E s := by
    rcases ha with z | z
    · obtain ⟨its, r, p, few⟩ := I.list z
      exact ⟨its, r, few, fun _ _ _ hz k => collect_lst p.isList hz k⟩
    · obtain ⟨its, r, p, few⟩ := I.tuple z
      exact ⟨its, r, few, fun _ _ _ hz k => collect_tup p hz k⟩
  have hz : its.length ≤ sizeLine := rv.length ▸ few
  refine sorted_from O hz (fun A E Q k => hc A E Q hz k) (hS its rv) fun out h' p e so st le keep there => ?_
  obtain ⟨ys, vy, q⟩ := hv its out rv so st
  have many : ys.length ≤ sizeLine := by
    rw [vy.length, st.len]; exact hz
  exact ⟨.ref p, _, I.laid (o := .lst ys) (t' := s.toks) keep le ⟨many, out, e, vy, there⟩, rfl, q p (I.hok.fresh le)⟩
end
end L3
end
section
namespace L3
open PySem PySem.Spec PyProof.Rows L2
section
variable {prog : Program} {w : World} {A : Around} {E : Value → Shared → Prop} {s : Shared}
/-- the first of a row of ints -/
theorem first_told {xs : Array Value} {ns : List Int} (ix : IntsAre xs.toList ns) : (xs[0]? = none ↔ ns = []) ∧ ∀ u, xs[0]? = some u → ∃ n t, u = Value.int n t := by
  have as_list : xs[0]? = xs.toList[0]? := (Array.getElem?_toList).symm
  rw [as_list]
  generalize xs.toList = l at ix
  cases ix with
  | nil => exact ⟨⟨fun _ => rfl, fun _ => rfl⟩, fun u z => by cases z⟩
  | cons n t _ => exact ⟨⟨fun z => absurd z (by simp), fun z => absurd z (by simp)⟩, fun u z => ⟨n, t, (Option.some.inj z).symm⟩⟩
theorem first_IT {v : Value} {ns : List Int} {Q : Option Value → Shared → Prop} (hv : IsIT s.heap v ns) (h : ∀ f, (f = none ↔ ns = []) → (∀ u, f = some u → ∃ n t, u = Value.int n t) → Q f s) : wpAny (model prog w) A (firstOfTuple' v) Q E s := by
  obtain ⟨x, xs, rfl, ⟨o, there, cls, _, data⟩, ix⟩ := hv
  rw [PySem.W.kas_first_eq]
  refine wpAny_bind (wpAny_typeOf (T := "tuple") ⟨o, there, cls⟩ ?_)
  rw [if_neg (by decide)]
  exact wpAny_bind (listItems_at there data (wpAny_pure (h _ (first_told ix).1 (first_told ix).2)))
/-- what firstOfTuple' says of each -/
def Firsts (k : Value → List Int) : List Value → List (Option Value) → Prop
  | [], [] => True
  | v :: vs, f :: fs => (f = none ↔ k v = []) ∧ (∀ u, f = some u → ∃ n t, u = Value.int n t) ∧ Firsts k vs fs
  | _, _ => False
theorem firsts_IT {k : Value → List Int} : ∀ (vs : List Value) {Q : List (Option Value) → Shared → Prop}, (∀ v ∈ vs, IsIT s.heap v (k v)) → (∀ fs, Firsts k vs fs → Q fs s) → wpAny (model prog w) A (vs.mapM firstOfTuple') Q E s
  | [], Q, _, h => by rw [List.mapM_nil]; exact wpAny_pure (h [] trivial)
  | v :: vs, Q, hp, h => by
    rw [List.mapM_cons]
    refine wpAny_bind (first_IT (hp v List.mem_cons_self) fun f e1 e2 => ?_)
    exact wpAny_bind (firsts_IT vs (fun u hu => hp u (List.mem_cons_of_mem _ hu)) fun fs hf => wpAny_pure (h (f :: fs) ⟨e1, e2, hf⟩))
theorem firsts_all {k : Value → List Int} : ∀ {vs : List Value} {fs : List (Option Value)}, Firsts k vs fs → fs.all (·.isSome) = true → ∀ u ∈ fs.filterMap id, ∃ n t, u = Value.int n t
  | [], [], _, _, u, hu => by simp at hu
  | v :: vs, f :: fs, ⟨e1, e2, hf⟩, ha, u, hu => by
    have ha := (Bool.and_eq_true _ _).mp (List.all_cons ▸ ha)
    cases f with
    | none => simp at ha
    | some x =>
      rw [List.filterMap_cons] at hu
      rcases List.mem_cons.mp (show u ∈ x :: fs.filterMap id from hu) with e | e
      · subst e; exact e2 _ rfl
      · exact firsts_all hf ha.2 u e
theorem types_IT {k : Value → List Int} : ∀ (vs : List Value) {Q : List Value → Shared → Prop}, (∀ v ∈ vs, IsIT s.heap v (k v)) → Q (vs.map fun _ => Value.type "tuple") s → wpAny (model prog w) A (vs.mapM typeOf) Q E s := by
  intro vs Q hp h
  refine PySem.W.kas_mapM (r := Value.type "tuple") _ (fun v hv Q' hq => ?_) h
  obtain ⟨x, _, rfl, ⟨o, there, cls, _⟩, _⟩ := hp v hv
  exact wpAny_typeOf ⟨o, there, cls⟩ hq
theorem types_int : ∀ (vs : List Value) {Q : List Value → Shared → Prop}, (∀ v ∈ vs, ∃ n t, v = Value.int n t) → Q (vs.map fun _ => Value.type "int") s → wpAny (model prog w) A (vs.mapM typeOf) Q E s := by
  intro vs Q hp h
  refine PySem.W.kas_mapM (r := Value.type "int") _ (fun v hv Q' hq => ?_) h
  obtain ⟨n, t, rfl⟩ := hp v hv
  exact wpAny_typeOf (typeIs_int s n t) hq
theorem firsts_len {k : Value → List Int} : ∀ {vs : List Value} {fs : List (Option Value)}, Firsts k vs fs → fs.length = vs.length
  | [], [], _ => rfl
  | _ :: _, _ :: _, h => by rw [List.length_cons, List.length_cons, firsts_len h.2.2]
theorem firsts_some {k : Value → List Int} : ∀ {vs : List Value} {fs : List (Option Value)}, Firsts k vs fs → (∀ v ∈ vs, k v ≠ []) → fs.all (·.isSome) = true
  | [], [], _, _ => rfl
  | v :: vs, f :: fs, ⟨e1, e2, hf⟩, h => by
    rw [List.all_cons, firsts_some hf fun v m => h v (List.mem_cons_of_mem _ m), Bool.and_true]
    cases f with
    | none => exact absurd (e1.mp rfl) (h v List.mem_cons_self)
    | some x => rfl
theorem firsts_none {k : Value → List Int} : ∀ {vs : List Value} {fs : List (Option Value)}, Firsts k vs fs → (∃ v ∈ vs, k v = []) → fs.all (·.isSome) = false
  | [], [], _, ⟨v, h, _⟩ => by cases h
  | v :: vs, f :: fs, ⟨e1, e2, hf⟩, ⟨u, hu, e⟩ => by
    rw [List.all_cons]
    rcases List.mem_cons.mp hu with q | q
    · subst q
      rw [e1.mpr e]; rfl
    · rw [firsts_none hf ⟨u, q, e⟩, Bool.and_false]
/-- an array's elements are asked in their order -/
theorem ask_each {α β : Type} {f : α → Sem β} {vs : List α} {Q : Array β → Shared → Prop} (h : wpAny (model prog w) A (vs.mapM f) (fun l s' => Q l.toArray s') E s) : wpAny (model prog w) A (vs.toArray.mapM f) Q E s := by
  rw [List.mapM_toArray]
  exact wpAny_map h
theorem one_type {T : Value} {vs : List Value} {Q : Option Value → Shared → Prop} (hne : vs ≠ []) (refl : (T == T) = true) (ht : ∀ {Q : List Value → Shared → Prop}, Q (vs.map fun _ => T) s → wpAny (model prog w) A (vs.mapM typeOf) Q E s) (h : Q (some T) s) : wpAny (model prog w) A (oneTypeOnly' vs.toArray) Q E s := by
  rw [oneTypeOnly'_eq]
  refine wpAny_bind (ask_each (ht ?_))
  cases vs with
  | nil => exact absurd rfl hne
  | cons v vs =>
    have alike : (((v :: vs).map fun _ => T).toArray.all (· == T)) = true := by
      refine Array.all_toList ▸ List.all_eq_true.mpr fun x hx => ?_
      obtain ⟨y, _, rfl⟩ := List.mem_map.mp hx
      exact refl
    show wpAny (model prog w) A (pure (if (((v :: vs).map fun _ => T).toArray.all (· == T)) = true then some T else none)) Q E s
    rw [if_pos alike]
    exact wpAny_pure h
/-- the way in which tuples of ints are compared when they are sorted is one of three -/
theorem kind_IT {k : Value → List Int} {vs : List Value} (h2 : 2 ≤ vs.length) (hp : ∀ v ∈ vs, IsIT s.heap v (k v)) : ∃ κ, (κ = tuples' true ∨ κ = general' ∨ κ = oneType') ∧
    ∀ (Q : SortKind → Shared → Prop) (E : Value → Shared → Prop), Q κ s → wpAny (model prog w) A (keyKind' vs.toArray) Q E s := by
  by_cases full : ∀ v ∈ vs, k v ≠ []
  · refine ⟨tuples' true, Or.inl rfl, fun Q E q => ?_⟩
    rw [keyKind'_eq]
    refine wpAny_bind (ask_each (firsts_IT vs hp fun fs hf => ?_))
    have all : fs.all (·.isSome) = true := firsts_some hf full
    rw [if_pos (by simpa using all)]
    have whole := firsts_all hf all
    have kept : fs.toArray.filterMap id = (fs.filterMap id).toArray := by simp
    rw [kept]
    have some_left : fs.filterMap id ≠ [] := by
      cases fs with
      | nil => have := firsts_len hf; simp at this; omega
      | cons f fs =>
        rw [List.all_cons, Bool.and_eq_true] at all
        obtain ⟨x, hx⟩ := Option.isSome_iff_exists.mp all.1
        simp [hx]
    exact wpAny_bind (wpAny_rule (wpAny_bind (one_type some_left (by decide) (types_int _ whole) (wpAny_pure q))))
  · have gap : ∃ v ∈ vs, k v = [] := by
      refine Classical.byContradiction fun no => full fun v hv e => no ⟨v, hv, e⟩
    cases vs with
    | nil => simp at h2
    | cons v vs =>
      by_cases first : k v = []
      · refine ⟨oneType', Or.inr (Or.inr rfl), fun Q E q => ?_⟩
        rw [keyKind'_eq]
        refine wpAny_bind (ask_each (firsts_IT _ hp fun fs hf => ?_))
        rw [if_neg (by simpa using firsts_none hf gap)]
        cases fs with
        | nil => exact absurd (firsts_len hf) (by simp)
        | cons f fs =>
          have f0 : f = none := hf.1.mpr first
          rw [if_neg (by simp [f0])]
          refine wpAny_bind (one_type (List.cons_ne_nil _ _) (by decide) (types_IT _ hp) (wpAny_pure ?_))
          exact q
      · refine ⟨general', Or.inr (Or.inl rfl), fun Q E q => ?_⟩
        rw [keyKind'_eq]
        refine wpAny_bind (ask_each (firsts_IT _ hp fun fs hf => ?_))
        rw [if_neg (by simpa using firsts_none hf gap)]
        cases fs with
        | nil => exact absurd (firsts_len hf) (by simp)
        | cons f fs =>
          obtain ⟨x, hx⟩ := Option.isSome_iff_exists.mp (Option.isSome_iff_ne_none.mpr fun z => first (hf.1.mp z))
          rw [if_pos (by simp [hx])]
          exact wpAny_pure q
theorem lots_sortableO {a : Addr} {vs : List Value} {k : Value → List Int} (h2 : 2 ≤ vs.length) (hp : ∀ v ∈ vs, IsIT s.heap v (k v)) (hu : A.units < cLine) (ha : ∀ o, s.heap.get? a = some o → o.cls ≠ .type "tuple") : SrtO.SortableO prog w A s a vs fun v u => HT.lexLt (k v) (k u) := by
  intro h' keep
  have hp' : ∀ v ∈ vs, IsIT h' v (k v) := fun v hm => (hp v hm).keeps fun b o e c => keep b o (fun z => by subst z; exact ha o e c) e
  obtain ⟨κ, hκ, hk⟩ := kind_IT (prog := prog) (w := w) (A := A) (s := { s with heap := h' }) h2 hp'
  refine ⟨κ, hk, ?_⟩
  rcases hκ with e | e | e
  · subst e; exact cmp_tuples hp' true
  · subst e; exact cmp_general hp' hu
  · subst e; exact cmp_one hp' hu
end
section
variable {X : Cx}
/-- a tuple of the ints ns at the value x -/
abbrev TupN := L2.TupI
theorem tupN_IT {pins : List (Addr × Obj)} {σ : L2.St} {H : Hp} {s : Shared} {x : V} {v : Value} {ns : List Int} (I : Inv X pins σ H s) (h : TupN X.K H x ns) (r : RelV x v) : IsIT s.heap v ns := by
  obtain ⟨b, rfl, sq⟩ := h
  exact (show v = .ref b from r) ▸ tupI_raw I sq
/-- sorted(xs) of lots, any number of them -/
def rSortLots (K : PySem.W.Frag) : List V → Hp → VK → Prop := fun vs H Q => ∃ (a : Addr) (xs : List V) (k : V → List Int), vs = [V.ref a] ∧ SqL K H a xs ∧ (∀ x ∈ xs, TupN K H x (k x)) ∧
  ∀ (ys : List V) (p : Addr), ys.Perm xs → ys.Pairwise (fun x y => k x ≤ k y) → H p = none → Q (.ref p) (upd H p (.lst ys))
theorem cr_sortLots (hu : X.A.units + 64 < cLine) : CallR X (.builtin "sorted") (rSortLots X.K) := by
  intro pins s σ H vs us Q I r ⟨a, xs, k, e, hl, hx, q⟩
  subst e
  rw [Vals.ref1 r]
  -- the values told by their words
  have words : ∀ its : List Value, Vals xs its → xs = its.map bkV ∧ ∀ v ∈ its, IsIT s.heap v (k (bkV v)) := by
    intro its rv
    obtain ⟨e, refs⟩ := bkV_refs rv fun x h => by
      obtain ⟨t, z, _⟩ := hx x h
      exact ⟨t, z⟩
    refine ⟨e, fun v hv => ?_⟩
    obtain ⟨b, rfl⟩ := refs v hv
    exact tupN_IT I (hx _ (by rw [e]; exact List.mem_map.mpr ⟨_, hv, rfl⟩)) rfl
  refine sorted_inv (ltv := fun v u => HT.lexLt (k (bkV v)) (k (bkV u))) I (swo_lex _) (Or.inl hl) (fun its rv h2 h' b new keep => ?_) fun its out rv so st => ?_
  · refine lots_sortableO (k := fun v => k (bkV v)) h2 (fun v hv => ((words its rv).2 v hv).keeps fun c o e _ => (keep c o e).2) (by simp only [Around.in1]; omega) fun o ho => ?_
    rw [new] at ho
    cases ho
    exact fun z => absurd (Value.type.inj z) (by decide)
  · obtain ⟨e, is⟩ := words its rv
    refine ⟨out.map bkV, bkV_vals fun u hu => ?_, fun p hp => q (out.map bkV) p (e ▸ st.perm.map bkV) ?_ hp⟩
    · obtain ⟨b, _, z, _⟩ := is u (st.perm.mem_iff.mp hu)
      exact ⟨b, z⟩
    · rw [List.pairwise_map]
      exact so.imp fun z => lex_no.mp z
end
end L3
end
section
namespace L3
open PySem PySem.Spec PyProof.Rows L2
section
variable {P : Program} {w : World} {A : Around} {s : Shared} {E : Value → Shared → Prop}
/-- sorted(v), when what is collected comes in some order -/
theorem sorted_anyhow {v : Value} {ltv : Value → Value → Bool} {Good : List Value → Prop} {Q : Value → Shared → Prop} (O : SrtO.Swo ltv) (hz : ∀ vs, Good vs → vs.length ≤ sizeLine)
    (hc : ∀ (E : Value → Shared → Prop) (Q : List Value → Shared → Prop), (∀ (s' : Shared) (vs : List Value), (∀ b o, s.heap.get? b = some o → s'.heap.get? b = some o) → s.heap.objs.size ≤ s'.heap.objs.size → s'.gens = s.gens → s'.os = s.os → Good vs → Q vs s') → wpAny (model P w) A.in1 (collect v) Q E s)
    (hS : ∀ vs, Good vs → 2 ≤ vs.length → ∀ (s' : Shared) (a : Addr), s'.heap.get? a = some (seqObj "list" vs.toArray 0) → (∀ b o, s.heap.get? b = some o → b ≠ a ∧ s'.heap.get? b = some o) → SrtO.SortableO P w A.in1.in1 s' a vs ltv)
    (h : ∀ (vs out : List Value) (s' : Shared) (p : Addr) (e : Nat), Good vs → SrtO.Srtd ltv out → SrtO.Stb ltv out vs → s.heap.objs.size ≤ p → (∀ b o, s.heap.get? b = some o → s'.heap.get? b = some o) → s'.gens = s.gens → s'.os = s.os → s'.heap.get? p = some (seqObj "list" out.toArray e) → Q (.ref p) s') :
    wpAny (model P w) A (call (.builtin "sorted") [v]) Q E s := by
  refine Calls.call_function_entry (id := "sorted") kind_sorted plain_sorted entry_sorted (args_sorted1 v) ?_
  show wpAny (model P w) A.in1 (Builtin.«sorted» ⟨[v], []⟩) _ E s
  unfold Builtin.«sorted»
  refine wpAny_bind (wpAny_pure (wpAny_bind (hc _ _ fun s1 vs k1 le1 g1 o1 good => wpAny_bind (wpAny_newList ?_ (by simpa using hz vs good)))))
  have there := Heap.get?_push_size s1.heap (o := { cls := .type "list", data := .seq vs.toArray }) rfl
  have apart : ∀ b o, s.heap.get? b = some o → b ≠ s1.heap.objs.size ∧ (s1.heap.push { cls := .type "list", data := .seq vs.toArray }).get? b = some o :=
    fun b o e => ⟨Nat.ne_of_lt (Nat.lt_of_lt_of_le (Heap.lt_size e) le1), Heap.get?_push_of_some _ (k1 b o e)⟩
  refine wpAny_bind (wpAny_holding (wpAny_call_entry slot_list_sort ⟨_, there, rfl⟩ entry_list_sort ?_ (PySem.F.args_list_sort_1 _)))
  refine SrtO.list_sort_ord O there (hz vs good) (fun two => hS vs good two _ _ there apart) fun out so st => ⟨_, rfl, wpAny_pure ⟨_, rfl, ?_⟩⟩
  obtain ⟨e, he⟩ := sortedHeap_at (h := s1.heap.push { cls := .type "list", data := .seq vs.toArray }) (vs := vs) (out := out.toArray) there
  exact h vs out _ _ e good so st le1 (fun b o z => (sortedHeap_old (apart b o z).1 (Heap.lt_size (apart b o z).2)).trans (apart b o z).2) g1 o1 he
end
section
variable {X : Cx}
/-- sorted(set), a set of lots -/
def rSortSetL (K : PySem.W.Frag) (P : Program) (w : World) : List V → Hp → VK → Prop := fun vs H Q => ∃ (a : Addr) (L : List (Addr × List Int)), vs = [V.ref a] ∧ H a = some (SetTO P w a L) ∧ (∀ p ∈ L, SqT K H p.1 (p.2.map V.int)) ∧
  ∀ (L' : List (Addr × List Int)) (p : Addr), L'.Perm L → (L'.map (·.2)).Nodup → L'.length < 64 → L'.Pairwise (fun q r => q.2 ≤ r.2) → H p = none → Q (.ref p) (upd H p (.lst (L'.map fun q => V.ref q.1)))
theorem perm_lift {α β : Type} (f : α → β) {out l : List β} (p : out.Perm l) : ∀ L : List α, l = L.map f → ∃ L' : List α, L'.Perm L ∧ out = L'.map f := by
  induction p with
  | nil =>
    intro L e
    exact ⟨[], by rw [List.map_eq_nil_iff.mp e.symm], rfl⟩
  | cons x _ ih =>
    intro L e
    cases L with
    | nil => cases e
    | cons y L =>
      obtain ⟨e1, e2⟩ := List.cons.inj e
      obtain ⟨L', p', rfl⟩ := ih L e2
      exact ⟨y :: L', p'.cons y, by rw [e1]; rfl⟩
  | swap x y l =>
    intro L e
    match L, e with
    | u :: v :: L, e =>
      obtain ⟨e1, e⟩ := List.cons.inj e
      obtain ⟨e2, e3⟩ := List.cons.inj e
      exact ⟨v :: u :: L, List.Perm.swap u v L, by rw [e1, e2, e3]; rfl⟩
  | trans _ _ ih1 ih2 =>
    intro L e
    obtain ⟨L2, p2, e2⟩ := ih2 L e
    obtain ⟨L1, p1, e1⟩ := ih1 L2 e2
    exact ⟨L1, p1.trans p2, e1⟩
theorem cr_sortSetL (hc : X.calm = true) (hu : X.A.units + 64 < cLine) : CallR X (.builtin "sorted") (rSortSetL X.K X.prog X.w) := by
  rintro pins s σ H _ us Q I r ⟨a, L, rfl, at_a, lots, q⟩
  rw [Vals.ref1 r]
  obtain ⟨es, ep, t, T⟩ : ∃ es ep t, SetTR X.prog X.w s.heap a L es ep t := SetT0.full (I.hok a _ at_a).1 fun p hp => I.isT (lots p hp)
  obtain ⟨o, there, ex, data⟩ := T.ob
  have rows : es.toList.map (·.2) = L.map fun p => Value.ref p.1 := by rw [T.rows]; unfold rowsOf; rw [List.map_map]; rfl
  have small : L.length < 64 := T.few
  -- each of the set's tuples, and the lot that it is
  have told : ∀ p ∈ L, IsIT s.heap (.ref p.1) p.2 := fun p hp => tupInts_of (T.tup p hp)
  have told2 : ∀ v ∈ L.map (fun p => Value.ref p.1), IsIT s.heap v (TS.intsOf s.heap v) := fun v hv => by
    obtain ⟨p, hp, rfl⟩ := List.mem_map.mp hv
    rw [TS.TupInts.ints (told p hp)]
    exact told p hp
  refine sorted_anyhow (ltv := fun v u => HT.lexLt (TS.intsOf s.heap v) (TS.intsOf s.heap u)) (Good := fun vs => vs.Perm (L.map fun p => Value.ref p.1)) (swo_lex _) (fun vs g => ?_) (fun E' Q' k => ?_) (fun vs g two s' b new keep => ?_) fun vs out s' p e g so st le keep gs os new => ?_
  · rw [g.length_eq, List.length_map]
    exact Nat.le_trans (Nat.le_of_lt small) (by decide)
  · exact collect_set (I.ok.hd hc) ⟨o, there, ex.1, data⟩ T.fits (by rw [T.size]; exact Nat.lt_trans small (by decide)) T.tab.ris T.led fun s' vs keep le gs os perm => k s' vs keep le gs os (rows ▸ perm)
  · refine lots_sortableO (k := TS.intsOf s.heap) two (fun v hv => (told2 v (g.mem_iff.mp hv)).keeps fun c o e _ => (keep c o e).2) (by simp only [Around.in1]; omega) fun o ho => ?_
    rw [new] at ho
    cases ho
    exact fun z => absurd (Value.type.inj z) (by decide)
  · obtain ⟨L', p', rfl⟩ := perm_lift (fun p : Addr × List Int => Value.ref p.1) (st.perm.trans g) L rfl
    have whole : ∀ x ∈ L', TS.intsOf s.heap (.ref x.1) = x.2 := fun x hx => TS.TupInts.ints (told x (p'.mem_iff.mp hx))
    have free := I.hok.fresh le
    have short : L'.length < 64 := p'.length_eq ▸ small
    have obj : ObjOk X.prog X.w (upd H p (.lst (L'.map fun x => V.ref x.1))) s'.heap p (.lst (L'.map fun x => V.ref x.1)) := ⟨by rw [List.length_map]; exact Nat.le_trans (Nat.le_of_lt short) (by decide), _, e, vals_of_refs L', new⟩
    refine ⟨.ref p, _, I.call' (ch := []) os (Un.laid keep le free) (I.hok.laid keep le obj) (gs ▸ I.bare) (fun _ z => nomatch z), rfl, q L' p p' ((p'.map _).nodup_iff.mpr T.nd) short ?_ free⟩
    rw [SrtO.Srtd, List.pairwise_map] at so
    refine so.imp_of_mem fun {x y} hx hy z => ?_
    rw [whole x hx, whole y hy] at z
    exact lex_no.mp z
end
end L3
end
section
namespace L3
open PySem PySem.Spec PyProof.Rows

/-! ### masks -/
theorem xor_sum (n : Nat) : ∀ m, (n ^^^ m) + 2 * (n &&& m) = n + m := by
  induction n using Nat.strongRecOn
  with
  | _ n ih =>
    intro m
    by_cases h : n = 0
    · subst h; simp
    · have h1 := ih (n / 2) (by omega) (m / 2)
      have a1 : (n ^^^ m) / 2 = n / 2 ^^^ m / 2 := Nat.xor_div_two
      have a2 : (n &&& m) / 2 = n / 2 &&& m / 2 := Nat.and_div_two
      have hn : n % 2 = 0 ∨ n % 2 = 1 := by omega
      have hm : m % 2 = 0 ∨ m % 2 = 1 := by omega
      have a3 : (n ^^^ m) % 2 = (n % 2 + m % 2) % 2 := by
        have := @Nat.xor_mod_two_pow n m 1
        simp at this
        rw [this]
        rcases hn with e | e <;> rcases hm with f | f <;> rw [e, f] <;> rfl
      have a4 : (n &&& m) % 2 = (n % 2) * (m % 2) := by
        have := @Nat.and_mod_two_pow n m 1
        simp at this
        rw [this]
        rcases hn with e | e <;> rcases hm with f | f <;> rw [e, f] <;> rfl
      rcases hn with e | e <;> rcases hm with f | f <;> rw [e, f] at a3 a4 <;> omega
theorem and_le (n m : Nat) : n &&& m ≤ n := Nat.and_le_left
theorem and_nat (n m : Nat) : Builtin.bitAnd (n : Int) (m : Int) = ((n &&& m : Nat) : Int) := by
  unfold Builtin.bitAnd
  rw [decide_eq_true (Int.natCast_nonneg n), decide_eq_true (Int.natCast_nonneg m)]
  simp
theorem or_nat (n m : Nat) : Builtin.bitOr (n : Int) (m : Int) = ((n ||| m : Nat) : Int) := by
  rw [L2.bitOr_nn (Int.natCast_nonneg n) (Int.natCast_nonneg m)]
  simp
theorem xor_nat (n m : Nat) : Builtin.bitXor (n : Int) (m : Int) = ((n ^^^ m : Nat) : Int) := by
  rw [PyProof.Rows.bitXor_and, and_nat]
  have := xor_sum n m
  omega
/-- n & ~m -/
theorem and_not (n m : Nat) : Builtin.bitAnd (n : Int) (Builtin.bitNot (m : Int)) = ((n - (n &&& m) : Nat) : Int) := by
  unfold Builtin.bitAnd
  have h : ¬ (0 : Int) ≤ Builtin.bitNot (m : Int) := by unfold Builtin.bitNot; omega
  rw [decide_eq_true (Int.natCast_nonneg n), decide_eq_false h]
  have e : (Builtin.bitNot (Builtin.bitNot (m : Int))).toNat = m := by unfold Builtin.bitNot; omega
  show (n : Int) - (((n : Int).toNat &&& (Builtin.bitNot (Builtin.bitNot (m : Int))).toNat : Nat) : Int) = _
  rw [e, Int.toNat_natCast]
  have := and_le n m
  omega
theorem shl_nat (n k : Nat) : (n : Int) * 2 ^ ((k : Int)).toNat = ((n <<< k : Nat) : Int) := by
  rw [Int.toNat_natCast, Nat.shiftLeft_eq, Int.natCast_mul, Int.natCast_pow]
  rfl
theorem shr_nat (n k : Nat) : (n : Int) / 2 ^ ((k : Int)).toNat = ((n >>> k : Nat) : Int) := by
  rw [Int.toNat_natCast, Nat.shiftRight_eq_div_pow, Int.natCast_ediv, Int.natCast_pow]
  rfl
end L3
end
section
namespace L3
open PySem PySem.Spec PyProof.Rows L2
section
variable {P : Program} {w : World} {A : Around} {E : Value → Shared → Prop} {s : Shared} {a b : Addr} {S : Int → Bool} {n : Nat}

/-- the entries of a set, as a list in any order -/
def Ents (S : Int → Bool) (n : Nat) (l : List (Int × Value)) : Prop := (∀ e ∈ l, GoodE e) ∧ (l.map keyOf).Nodup ∧ (∀ k, S k = true ↔ k ∈ l.map keyOf) ∧ l.length = n
theorem Ents.perm {l l' : List (Int × Value)} (h : Ents S n l) (p : l'.Perm l) : Ents S n l' :=
  ⟨fun e he => h.1 e (p.mem_iff.mp he), (p.map keyOf).nodup_iff.mpr h.2.1, fun k => (h.2.2.1 k).trans (p.map keyOf).mem_iff.symm, by rw [p.length_eq]; exact h.2.2.2⟩
theorem SetR.ents (R : SetR w s.heap a S n) : ∃ o es ep t, s.heap.get? a = some o ∧ o.ExactSet ∧ o.data = .set es ep t ∧ Ents S n es.toList ∧ es.size < scanBound ∧ t.fits es.size = true ∧ Ris t.place.toList ∧ (w.params.followText "set-order" = true ∨ t.led = true) := by
  obtain ⟨o, es, ep, t, there, ex, data, good, nd, mem, small, fit, many, up, lead⟩ := R
  exact ⟨o, es, ep, t, there, ex, data, ⟨good, nd, mem, by rw [Array.length_toList]; exact many⟩, small, fit, up, lead⟩

theorem ask_at {Q : _ → Shared → Prop} (h : Q ⟨P, w.params⟩ s) : wpAny (model P w) A PySem.ask Q E s := fun _ _ _ => h
theorem setWalk_at {o : Obj} {es : Array (Int × Value)} {ep : Nat} {t : SetTable} {Q : Array (Int × Value) → Shared → Prop} (ho : s.heap.get? a = some o) (hd : o.data = .set es ep t) (hf : t.fits es.size = true)
    (hl : w.params.followText "set-order" = true ∨ t.led = true) (h : ∀ (es' : Array (Int × Value)) (d : Drawn), es'.toList.Perm es.toList → Q es' { s with drawn := d }) : wpAny (model P w) A (setWalk a) Q E s := by
  have same : Q es s := h es s.drawn (List.Perm.refl _)
  unfold setWalk
  refine wpAny_bind (wpAny_setState_of ho hd hf (wpAny_bind (wpAny_byText ?_)))
  rcases hb : w.params.followText "set-order" with _ | _
  · have led : t.led = true := by rw [hb] at hl; exact hl.resolve_left (by decide)
    rw [if_neg (by decide)]
    split
    · exact wpAny_bind (drawOrder_at _ _ _ _ (Nat.le_of_eq Array.length_toList) fun ys d p => wpAny_pure (h ys.toArray d p))
    · refine wpAny_bind ?_
      show wpAny (model P w) A (if (!t.led && decide (es.size > 1)) = true then unsupported _ else pure ()) _ E s
      rw [led]
      exact wpAny_pure (wpAny_pure same)
  · rw [if_pos rfl]
    exact wpAny_bind (ask_at (wpAny_pure (h _ s.drawn (pick_perm _ es))))
theorem setsQuiet_at (sets : List Addr) {Q : Bool → Shared → Prop} (h : ∀ a ∈ sets, ∃ o es ep t, s.heap.get? a = some o ∧ o.data = .set es ep t ∧ t.fits es.size = true ∧ ∀ e ∈ es.toList, GoodE e) (hQ : Q true s) :
    wpAny (model P w) A (setsQuiet sets) Q E s := by
  unfold setsQuiet
  refine wpAny_bind (wpAny_forIn_list _ (fun rest b s' => b = (none, ()) ∧ s' = s ∧ ∀ a ∈ rest, a ∈ sets) _ ?_ ?_ _ _ ⟨rfl, rfl, fun _ q => q⟩)
  · rintro a rest b s' ⟨rfl, e, hm⟩
    subst e
    obtain ⟨o, es, ep, t, ho, hd, hf, hg⟩ := h a (hm a List.mem_cons_self)
    have key : wpAny (model P w) A (setEntries a) (fun r s2 => r = es ∧ s2 = s') E s' := by
      unfold setEntries
      exact wpAny_bind (wpAny_setState_of ho hd hf (wpAny_pure ⟨rfl, rfl⟩))
    refine wpAny_bind (wpAny_mono key (fun r s2 e => ?_) fun _ _ z => z)
    obtain ⟨rfl, rfl⟩ := e
    refine wpAny_bind (PySem.MeetsSeq2.wpAny_forIn_array _ (fun rest b s3 => b = (none, ()) ∧ s3 = s2 ∧ ∀ e ∈ rest, GoodE e) _ ?_ ?_ _ _ ⟨rfl, rfl, hg⟩)
    · rintro e rest b s3 ⟨rfl, e3, hg'⟩
      subst e3
      obtain ⟨k, tk, h1, h2⟩ := hg' e List.mem_cons_self
      obtain ⟨e1, e2⟩ := e
      dsimp only at h1
      subst h1
      dsimp only
      exact wpAny_pure ⟨rfl, rfl, fun y hy => hg' y (List.mem_cons_of_mem _ hy)⟩
    · rintro b s3 ⟨rfl, rfl, _⟩
      exact wpAny_pure ⟨rfl, rfl, fun y hy => hm y (List.mem_cons_of_mem _ hy)⟩
  · rintro b s' ⟨rfl, rfl, _⟩
    exact wpAny_pure hQ

/-- what is written into f is f's own members again, so f stays the same set -/
theorem setWalkUnseen_at {f : Addr} {others : List Addr} {m : Nat} {Sf : Int → Bool} {Q : Array (Int × Value) → Shared → Prop} (R : SetR w s.heap a S n) (Rf : SetR w s.heap f Sf m)
    (ho : ∀ b ∈ others, ∃ Sb k, SetR w s.heap b Sb k)
    (h : ∀ (es' : Array (Int × Value)) (d : Drawn) (h' : Heap), Ents S n es'.toList → Heap.SameBut f s.heap h' → SetR w h' f Sf m → Q es' { s with drawn := d, heap := h' }) :
    wpAny (model P w) A (setWalkUnseen a others (some f)) Q E s := by
  obtain ⟨o, es, ep, t, g1, _, g2, en, _, g3, _, lead⟩ := SetR.ents R
  have walk : wpAny (model P w) A (setWalk a) Q E s := setWalk_at g1 g2 g3 lead fun es' d p => h es' d s.heap (en.perm p) (Heap.SameBut.refl f s.heap) Rf
  have quiet : ∀ b ∈ a :: others, ∃ o es ep t, s.heap.get? b = some o ∧ o.data = .set es ep t ∧ t.fits es.size = true ∧ ∀ e ∈ es.toList, GoodE e := by
    intro b hb
    have : ∃ Sb k, SetR w s.heap b Sb k := (List.mem_cons.mp hb).elim (fun e => e ▸ ⟨S, n, R⟩) (ho b)
    obtain ⟨Sb, k, Rb⟩ := this
    obtain ⟨o, es, ep, t, q1, _, q2, q3, _, q4, _⟩ := SetR.ents Rb
    exact ⟨o, es, ep, t, q1, q2, q4, q3.1⟩
  unfold setWalkUnseen
  refine wpAny_bind (wpAny_setState_of g1 g2 g3 (wpAny_bind (wpAny_byText ?_)))
  dsimp only
  split
  · exact walk
  · refine wpAny_bind (setsQuiet_at _ quiet ?_)
    rw [if_neg (by decide)]
    refine wpAny_bind (wpAny_rule (tag := _) ?_)
    obtain ⟨of, ef, epf, tf, f1, fx, f2, fn, fb, f3, fr, flead⟩ := SetR.ents Rf
    refine wpAny_bind (wpAny_setState_of f1 f2 f3 ?_)
    dsimp only
    have stay : wpAny (model P w) A (pure es) Q E s := wpAny_pure (h es s.drawn s.heap en (Heap.SameBut.refl f s.heap) Rf)
    split
    · refine wpAny_bind (wpAny_storeSet_of f1 f2 (hz := Nat.le_trans (Nat.le_of_lt fb) (by decide)) (wpAny_pure (h es s.drawn _ en (Heap.SameBut.update _ _ _) ?_)))
      refine ⟨_, ef, epf + 1, { tf with led := tf.led && t.led, plain := tf.plain && t.plain }, store_at f1 f2, fx, rfl, fn.1, fn.2.1, fn.2.2.1, fb, f3, ?_, fr, ?_⟩
      · rw [← Array.length_toList]; exact fn.2.2.2
      · rcases flead with z | z
        · exact Or.inl z
        · exact lead.imp id fun y => by rw [z, y]; rfl
    · exact stay
end
end L3
end
section
namespace L3
open PySem PySem.Spec PyProof.Rows L2
theorem entry_set_and : entryFor table "set.__and__" = some Builtin.«frozenset.__and__» :=
  entryFor_alias (id' := "frozenset.__and__") (by kernel_rfl) rfl (by decide +kernel) (by kernel_rfl)
theorem entry_set_xor : entryFor table "set.__xor__" = some Builtin.«frozenset.__xor__» :=
  entryFor_alias (id' := "frozenset.__xor__") (by kernel_rfl) rfl (by decide +kernel) (by kernel_rfl)
open PySem.Builtin.Frozenset in
theorem and_eq (args : Args) : Builtin.«frozenset.__and__» args = (do
  let (self, other) ← slot1 "__and__" args
  if !(← isAnySet self <&&> isAnySet other) then rule s!"frozenset.{"__and__"}.declined"; return ← ret .notImplemented
  ret (← intersection s!"frozenset.{"__and__"}" (← addrOf self) other)) := rfl
section
variable {P : Program} {w : World} {A : Around} {E : Value → Shared → Prop} {s : Shared} {a b : Addr} {S T : Int → Bool} {n m : Nat}
theorem SetR.typeIs (R : SetR w s.heap a S n) : s.TypeIs (.ref a) "set" := by
  obtain ⟨o, es, ep, t, ho, hex, _⟩ := R
  exact ⟨o, ho, hex.1⟩
open PySem.Builtin.Frozenset in
theorem isAnySet_at {Q : Bool → Shared → Prop} (R : SetR w s.heap a S n) (h : Q true s) : wpAny (model P w) A (isAnySet (.ref a)) Q E s := by
  have t := SetR.typeIs R
  unfold isAnySet orM
  refine wpAny_bind (wpAny_isInstance t sub_set_self ?_)
  exact wpAny_pure h
open PySem.Builtin.Frozenset in
theorem base_at {Q : Value → Shared → Prop} (R : SetR w s.heap a S n) (h : Q (.type "set") s) : wpAny (model P w) A (baseOf a) Q E s := by
  unfold baseOf
  exact wpAny_bind (wpAny_isInstance (SetR.typeIs R) sub_set_self (wpAny_pure h))
/-- a new empty set -/
theorem newSet_at {Q : Value → Shared → Prop} (h : ∀ h', (∀ b o, s.heap.get? b = some o → h'.get? b = some o) → SetR w h' s.heap.objs.size (fun _ => false) 0 →
      (∃ t : SetTable, h'.get? s.heap.objs.size = some { cls := .type "set", dict := none, data := .set #[] 0 t } ∧ t.mask = 7 ∧ t.place = #[] ∧ t.dummies = #[] ∧ (w.params.followText "set-order" = true ∨ t.led = true)) → Q (.ref s.heap.objs.size) { s with heap := h' }) : wpAny (model P w) A (newSet (.type "set")) Q E s := by
  unfold newSet
  refine wpAny_bind (m := setsByText) (wpAny_byText ?_)
  dsimp only
  refine wpAny_newObj_type (h _ (fun b o e => Heap.get?_push_of_some _ e) (setR_fresh w) ⟨.fresh 0 0 (!w.params.followText "set-order"), Heap.get?_push_size s.heap rfl, rfl, rfl, rfl, ?_⟩) (hd := Nat.zero_le _)
  rcases w.params.followText "set-order" with _ | _
  · exact Or.inr rfl
  · exact Or.inl rfl
end
end L3
end
section
namespace L3
open PySem PySem.Spec PyProof.Rows L2
section
variable {P : Program} {w : World} {A : Around} {E : Value → Shared → Prop} {s : Shared} {a b : Addr} {S T : Int → Bool} {n m : Nat}
theorem SetR.but {h h' : Heap} {r : Addr} (R : SetR w h a S n) (sb : Heap.SameBut r h h') (ne : a ≠ r) : SetR w h' a S n := R.at fun o e => (sb.2 a ne).trans e
theorem size_at {Q : Nat → Shared → Prop} (R : SetR w s.heap a S n) (h : Q n s) : wpAny (model P w) A (PySem.Builtin.Frozenset.sizeOf a) Q E s := by
  obtain ⟨o, es, ep, t, there, _, data, he, _, fit, _⟩ := SetR.ents R
  unfold PySem.Builtin.Frozenset.sizeOf
  refine wpAny_bind (wpAny_setEntries_of there data fit (wpAny_pure ?_))
  rw [← Array.length_toList, he.2.2.2]
  exact h
/-- the number of a set's members is bounded -/
theorem SetR.lt_scan (R : SetR w s.heap a S n) : n < scanBound := by
  obtain ⟨_, es, _, _, _, _, _, _, _, _, small, _, many, _⟩ := R
  omega
open PySem.Builtin.Frozenset in
/-- a set whose object is the same as ever has not been changed -/
theorem unchanged_at {id : String} {o : Obj} {es : Array (Int × Value)} {ep : Nat} {t : SetTable} {Q : Unit → Shared → Prop} (ho : s.heap.get? a = some o) (hd : o.data = .set es ep t) (hf : t.fits es.size = true) (h : Q () s) :
    wpAny (model P w) A (unchanged id a ep) Q E s := by
  unfold unchanged
  refine wpAny_bind (m := setEpoch a) (wpAny_setEpoch_of ho hd hf ?_)
  rw [bne_self_eq_false, if_neg Bool.false_ne_true]
  exact wpAny_pure h
/-- is the int k in the set at a? -/
theorem has_at {k : Int} {tk : Tok} {Q : Option Nat → Shared → Prop} (R : SetR w s.heap a S n) (h : ∀ f : Option Nat, f.isSome = S k → Q f s) : wpAny (model P w) A (setFind a (.int k tk) (hashInt k)) Q E s :=
  wpAny_setFind_of (knd := intKind P w) (k := k) (intKind_is P w k tk) rfl R.setOf h
/-- the entries walked so far, and the one that comes next -/
theorem seen_more {p : Int → Bool} {k : Int} {done : List (Int × Value)} {e : Int × Value} (he : keyOf e = k) (j : Int) :
    (p j && decide (j ∈ (done ++ [e]).map keyOf)) = ((p j && decide (j ∈ done.map keyOf)) || (p k && decide (j = k))) := by
  by_cases q : j = k
  · subst q
    cases hp : p j <;> simp [he]
  · have : j ∈ (done ++ [e]).map keyOf ↔ j ∈ done.map keyOf := by
      rw [List.map_append, List.mem_append, List.map_singleton, List.mem_singleton, he]
      exact or_iff_left q
    rw [decide_eq_decide.mpr this, decide_eq_false q, Bool.and_false, Bool.or_false]
open PySem.Builtin.Frozenset in
theorem inter_at {id : String} {Q : Value → Shared → Prop} (Ra : SetR w s.heap a S n) (Rb : SetR w s.heap b T m) (hab : a ≠ b)
    (hQ : ∀ (h' : Heap) (d : Drawn) (c : Nat), (∀ x o, s.heap.get? x = some o → h'.get? x = some o) → SetR w h' s.heap.objs.size (fun k => S k && T k) c → Q (.ref s.heap.objs.size) { s with heap := h', drawn := d }) :
    wpAny (model P w) A (intersection id a (.ref b)) Q E s := by
  have la := Ra.lt
  have lb := Rb.lt
  unfold intersection
  rw [if_neg (by simpa using fun e => hab e.symm)]
  refine wpAny_bind (base_at Ra (wpAny_bind (newSet_at fun h0 old R0 _ => ?_)))
  refine wpAny_bind (wpAny_pure (wpAny_bind (wpAny_holding ?_)))
  have Ra0 : SetR w h0 a S n := Ra.at (old a)
  have Rb0 : SetR w h0 b T m := Rb.at (old b)
  refine wpAny_bind (isAnySet_at Rb0 ?_)
  rw [if_pos rfl]
  refine wpAny_bind (wpAny_pure (wpAny_bind (size_at Rb0 (wpAny_bind (size_at Ra0 ?_)))))
  obtain ⟨p, q, Sp, Sq, np, nq, e, Rp, Rq, lp, lq, both⟩ : ∃ p q Sp Sq np nq, (if m > n then (b, a) else (a, b)) = (p, q) ∧ SetR w h0 p Sp np ∧ SetR w h0 q Sq nq ∧ p < s.heap.objs.size ∧ q < s.heap.objs.size ∧ ∀ k, (S k && T k) = (Sp k && Sq k) := by
    by_cases c : m > n
    · exact ⟨b, a, T, S, m, n, if_pos c, Rb0, Ra0, lb, la, fun k => Bool.and_comm _ _⟩
    · exact ⟨a, b, S, T, n, m, if_neg c, Ra0, Rb0, la, lb, fun k => rfl⟩
  rw [e]
  dsimp only
  have pr : p ≠ s.heap.objs.size := Nat.ne_of_lt lp
  have qr : q ≠ s.heap.objs.size := Nat.ne_of_lt lq
  obtain ⟨oq, eq, epq, tq, q1, _, q2, _, _, q3, _⟩ := SetR.ents (s := { s with heap := h0 }) Rq
  refine wpAny_bind (wpAny_setEpoch_of q1 q2 q3 (wpAny_bind (setWalkUnseen_at (s := { s with heap := h0 }) Rq R0 ?_ fun es d h1 en b1 R1 => ?_)))
  · intro x hx
    rcases List.mem_cons.mp hx with z | z
    · exact z ▸ ⟨Sp, np, Rp⟩
    · rw [List.mem_singleton.mp z]; exact ⟨_, _, R0⟩
  · have top := SetR.lt_scan (s := { s with heap := h0 }) Rq
    refine wpAny_bind (PySem.MeetsSeq2.wpAny_forIn_array _ (fun rest _ s2 => ∃ done c h2, s2 = { s with heap := h2, drawn := d } ∧ es.toList = done ++ rest ∧ Heap.SameBut s.heap.objs.size h0 h2 ∧ SetR w h2 s.heap.objs.size (fun k => Sp k && decide (k ∈ done.map keyOf)) c ∧ c ≤ done.length) _ ?_ ?_ _ _ ?_)
    · rintro x rest _ _ ⟨done, c, h2, rfl, cut, b2, R2, le⟩
      have len : done.length + (rest.length + 1) = nq := by rw [← en.2.2.2, cut]; simp
      obtain ⟨k, tk, x2, x1⟩ := en.1 x (by rw [cut]; simp)
      have key : keyOf x = k := by unfold keyOf; rw [x2]
      obtain ⟨x1', x2'⟩ := x
      dsimp only at x1 x2
      subst x1 x2
      have rest_of : ∀ {h3 : Heap} (Z : Unit → Shared → Prop), Heap.SameBut s.heap.objs.size h2 h3 → Z () { s with heap := h3, drawn := d } → wpAny (model P w) A (unchanged id q epq) Z E { s with heap := h3, drawn := d } :=
        fun Z b3 z => unchanged_at (((b2.trans b3).2 q qr).trans q1) q2 q3 z
      refine wpAny_bind (wpAny_holding (wpAny_bind (has_at (s := { s with heap := h2, drawn := d }) (SetR.but Rp b2 pr) fun f hf => ?_)))
      have cut' : es.toList = (done ++ [(hashInt k, Value.int k tk)]) ++ rest := by rw [cut, List.append_assoc, List.singleton_append]
      rw [hf]
      cases in_p : Sp k with
      | false =>
        rw [if_neg (by decide)]
        refine wpAny_pure (wpAny_bind (rest_of _ (Heap.SameBut.refl _ h2) (wpAny_pure ⟨_, c, h2, rfl, cut', b2, R2.congr fun j => ?_, by simp; omega⟩)))
        rw [seen_more (p := Sp) key j, in_p, Bool.false_and, Bool.or_false]
      | true =>
        rw [if_pos rfl]
        refine wpAny_bind (setR_add_hashed (tk := tk) R2 (by omega) fun h3 b3 R3 => wpAny_pure (wpAny_bind (rest_of _ b3 (wpAny_pure ⟨_, _, h3, rfl, cut', b2.trans b3, R3.congr fun j => ?_, ?_⟩))))
        · rw [seen_more (p := Sp) key j, in_p, Bool.true_and]
        · rw [List.length_append]
          show _ ≤ done.length + 1
          split <;> omega
    · rintro _ _ ⟨done, c, h2, rfl, cut, b2, R2, le⟩
      rw [List.append_nil] at cut
      refine wpAny_pure (wpAny_pure (hQ h2 d c (fun x o z => (b2.2 x (Nat.ne_of_lt (Heap.lt_size z))).trans (old x o z)) (R2.congr fun k => ?_)))
      rw [both k, ← cut, Bool.eq_iff_iff.mpr ((en.2.2.1 k).trans decide_eq_true_iff.symm)]
    · exact ⟨[], 0, h1, rfl, rfl, b1, R1.congr fun k => by simp, Nat.le_refl _⟩
open PySem.Builtin.Frozenset in
theorem call_and {Q : Value → Shared → Prop} (Ra : SetR w s.heap a S n) (Rb : SetR w s.heap b T m) (hab : a ≠ b)
    (hQ : ∀ (h' : Heap) (d : Drawn) (c : Nat), (∀ x o, s.heap.get? x = some o → h'.get? x = some o) → SetR w h' s.heap.objs.size (fun k => S k && T k) c → Q (.ref s.heap.objs.size) { s with heap := h', drawn := d }) :
    wpAny (model P w) A (binaryOp .BitAnd (.ref a) (.ref b)) Q E s := by
  have sa := SetR.typeIs Ra
  refine wpAny_binaryOp_same sa (SetR.typeIs Rb) PySem.F.fills_set_and PySem.F.slot_set_and (wpAny_call_entry PySem.F.slot_set_and sa entry_set_and ?_ (PySem.F.args_set_and_2 _ _))
  rw [and_eq]
  refine wpAny_bind (wpAny_pure (wpAny_bind (m := andM _ _) ?_))
  unfold andM
  refine wpAny_bind (isAnySet_at Ra (isAnySet_at Rb ?_))
  refine wpAny_bind (wpAny_pure (wpAny_bind (inter_at Ra Rb hab fun h' d c k R => ?_)))
  exact wpAny_pure ⟨_, rfl, Value.noConfusion, hQ h' d c k R⟩
end
end L3
end
section
namespace L3
open PySem PySem.Spec PyProof.Rows L2

theorem find_zero {p : Nat → Bool} {n : Nat} (hn : 0 < n) (h : p 0 = true) : (List.range n).find? p = some 0 := by
  cases n with
  | zero => exact absurd hn (by decide)
  | succ m => rw [List.range_succ_eq_map, List.find?_cons, h]
theorem bits_small {h : Int} {mask : Nat} (h0 : 0 ≤ h) (h8 : h < 8) (hm : 7 ≤ mask) : SetTable.bits h % (mask + 1) = h.toNat := by
  have e : SetTable.bits h = h.toNat := by
    unfold SetTable.bits
    rw [Int.emod_eq_of_lt h0 (by omega)]
  rw [e]
  exact Nat.mod_eq_of_lt (by omega)
theorem free_small {owner : Array (Option Nat)} {mask i pert fuel : Nat} (h : owner.getD i (some 0) = none) : SetTable.layClean.free mask owner (fuel + 1) i pert = some i := by
  rw [SetTable.layClean.free]
  have hz : (List.range (SetTable.runEnd mask i + 1 - i)).find? (fun k => (owner.getD (i + k) (some 0)).isNone) = some 0 := by
    refine find_zero ?_ ?_
    · unfold SetTable.runEnd
      split <;> omega
    · show (owner.getD (i + 0) (some 0)).isNone = true
      rw [Nat.add_zero, h]; rfl
  rw [hz]
  rfl
def layStep (mask : Nat) (acc : Option (Array (Option Nat) × Nat)) (h : Int) : Option (Array (Option Nat) × Nat) :=
  acc.bind fun p => (SetTable.layClean.free mask p.1 (mask + 15) (SetTable.bits h % (mask + 1)) (SetTable.bits h)).bind fun j => some (p.1.setIfInBounds j (some p.2), p.2 + 1)
theorem lay_fold {mask : Nat} (hm : 7 ≤ mask) : ∀ (hs : List Int) (owner : Array (Option Nat)) (k : Nat), owner.size = mask + 1 → (∀ h ∈ hs, 0 ≤ h ∧ h < 8) → hs.Nodup → (∀ h ∈ hs, owner.getD h.toNat (some 0) = none) →
    ∃ owner', hs.foldl (layStep mask) (some (owner, k)) = some (owner', k + hs.length) ∧ owner'.size = mask + 1 ∧ ∀ j q : Nat, owner'.getD j none = some q ↔ (owner.getD j none = some q ∨ (k ≤ q ∧ hs[q - k]? = some (j : Int)))
  | [], owner, k, hsz, _, _, _ => ⟨owner, rfl, hsz, fun j q => by simp⟩
  | h :: hs, owner, k, hsz, hr, hn, hf => by
    obtain ⟨h0, h8⟩ := hr h List.mem_cons_self
    have hfree := hf h List.mem_cons_self
    have hst : layStep mask (some (owner, k)) h = some (owner.setIfInBounds h.toNat (some k), k + 1) := by
      unfold layStep
      rw [bits_small h0 h8 hm]
      show (SetTable.layClean.free mask owner (mask + 14 + 1) h.toNat (SetTable.bits h)).bind _ = _
      rw [free_small hfree]
      rfl
    obtain ⟨hn1, hn2⟩ := List.nodup_cons.mp hn
    have hg : ∀ (j : Nat) (d : Option Nat), (owner.setIfInBounds h.toNat (some k)).getD j d = if j = h.toNat then some k else owner.getD j d := by
      intro j d
      simp only [Array.getD_eq_getD_getElem?, Array.getElem?_setIfInBounds]
      by_cases e : h.toNat = j
      · rw [if_pos e, if_pos e.symm, if_pos (by rw [hsz]; omega)]
        rfl
      · rw [if_neg e, if_neg (fun z => e z.symm)]
    obtain ⟨o', e1, e2, e3⟩ := lay_fold hm hs (owner.setIfInBounds h.toNat (some k)) (k + 1) (by rw [Array.size_setIfInBounds]; exact hsz) (fun x hx => hr x (List.mem_cons_of_mem _ hx)) hn2 (fun x hx => by
      obtain ⟨x0, x8⟩ := hr x (List.mem_cons_of_mem _ hx)
      rw [hg, if_neg (fun z => hn1 (by have : x = h := by omega
                                       rw [← this]; exact hx))]
      exact hf x (List.mem_cons_of_mem _ hx))
    refine ⟨o', ?_, e2, fun j q => ?_⟩
    · rw [List.foldl_cons, hst, e1, List.length_cons]
      congr 2
      omega
    · rw [e3, hg]
      have hd : owner.getD h.toNat none = none := by
        have q := hfree
        simp only [Array.getD_eq_getD_getElem?] at q ⊢
        cases z : owner[h.toNat]? with
        | none => rfl
        | some v => rw [z] at q; exact q
      by_cases e : j = h.toNat
      · rw [if_pos e, e, hd]
        constructor
        · rintro (z | ⟨z1, z2⟩)
          · right
            have : k = q := Option.some.inj z
            subst this
            refine ⟨Nat.le_refl _, ?_⟩
            rw [Nat.sub_self]
            show some h = some ((h.toNat : Nat) : Int)
            congr 1; omega
          · exfalso
            have hm' : ((h.toNat : Nat) : Int) ∈ hs := List.mem_of_getElem? z2
            rw [Int.toNat_of_nonneg h0] at hm'
            exact hn1 hm'
        · rintro (z | ⟨z1, z2⟩)
          · cases z
          · by_cases eq : q = k
            · left; rw [eq]
            · exfalso
              have : q - k = (q - k - 1) + 1 := by omega
              rw [this, List.getElem?_cons_succ] at z2
              have hm' : ((h.toNat : Nat) : Int) ∈ hs := List.mem_of_getElem? z2
              rw [Int.toNat_of_nonneg h0] at hm'
              exact hn1 hm'
      · rw [if_neg e]
        constructor
        · rintro (z | ⟨z1, z2⟩)
          · exact .inl z
          · right
            refine ⟨by omega, ?_⟩
            have : q - k = (q - (k + 1)) + 1 := by omega
            rw [this, List.getElem?_cons_succ]
            exact z2
        · rintro (z | ⟨z1, z2⟩)
          · exact .inl z
          · right
            by_cases eq : q = k
            · exfalso
              rw [eq, Nat.sub_self] at z2
              have : h = (j : Int) := Option.some.inj z2
              omega
            · refine ⟨by omega, ?_⟩
              have : q - k = (q - (k + 1)) + 1 := by omega
              rw [this, List.getElem?_cons_succ] at z2
              exact z2

theorem clean_owner {mask : Nat} (hm : 7 ≤ mask) (hs : Array Int) (hr : ∀ h ∈ hs.toList, 0 ≤ h ∧ h < 8) (hn : hs.toList.Nodup) :
    ∃ own, SetTable.layClean mask hs = some own ∧ ∀ j q : Nat, own.getD j none = some q ↔ hs.toList[q]? = some (j : Int) := by
  have spread : SetTable.layClean mask hs = (hs.toList.foldl (layStep mask) (some (Array.replicate (mask + 1) none, 0))).map (·.1) := by
    rw [Array.foldl_toList]
    rfl
  have none_there : ∀ (j : Nat) (d : Option Nat), j < mask + 1 → (Array.replicate (mask + 1) (none : Option Nat)).getD j d = none := fun j d lt => by
    simp [lt]
  obtain ⟨own, e1, _, e3⟩ := lay_fold hm hs.toList (Array.replicate (mask + 1) none) 0 (by simp) hr hn (fun h hh => none_there _ _ (by have := hr h hh; omega))
  refine ⟨own, by rw [spread, e1]; rfl, fun j q => (e3 j q).trans ?_⟩
  have nil : (Array.replicate (mask + 1) (none : Option Nat)).getD j none ≠ some q := by
    by_cases lt : j < mask + 1
    · rw [none_there j none lt]; simp
    · simp [lt]
  exact (or_iff_right nil).trans (by simp)
theorem laid_ok {mask f mv : Nat} {led plain : Bool} (hm : 7 ≤ mask) (hs : Array Int) (hr : ∀ h ∈ hs.toList, 0 ≤ h ∧ h < 8) (hn : hs.toList.Nodup) :
    ∃ (t : SetTable) (order : Array Nat), SetTable.laid mask f mv led plain hs = some (t, order) ∧ t.mask = mask ∧ t.dummies = #[] ∧ t.led = led ∧ t.place.size = hs.size ∧ Ris t.place.toList ∧ order.toList.Perm (List.range hs.size) := by
  obtain ⟨own, e, tells⟩ := clean_owner hm hs hr hn
  -- who stands in which slot, slot by slot
  have second : (((List.range (mask + 1)).filterMap fun j => (own.getD j none).map (j, ·)).map (·.2)) = (List.range (mask + 1)).filterMap fun j => own.getD j none := by
    rw [List.map_filterMap]
    congr 1
    funext j
    cases own.getD j none <;> rfl
  have perm : ((List.range (mask + 1)).filterMap fun j => own.getD j none).Perm (List.range hs.size) := by
    refine (List.perm_ext_iff_of_nodup ?_ List.nodup_range).mpr fun q => ?_
    · refine List.pairwise_filterMap.mpr (List.nodup_range.imp fun {i j} ne x hx y hy xy => ne ?_)
      subst xy
      exact Int.ofNat_inj.mp (Option.some.inj (((tells i x).mp hx).symm.trans ((tells j x).mp hy)))
    · rw [List.mem_filterMap, List.mem_range]
      constructor
      · rintro ⟨j, _, hj⟩
        have := (List.getElem?_eq_some_iff.mp ((tells j q).mp hj)).1
        simpa using this
      · intro lt
        have lt' : q < hs.toList.length := by simpa using lt
        have b := hr hs.toList[q] (List.getElem_mem lt')
        refine ⟨hs.toList[q].toNat, List.mem_range.mpr (by omega), (tells _ q).mpr ?_⟩
        rw [List.getElem?_eq_getElem lt', Int.toNat_of_nonneg b.1]
  refine ⟨_, _, by unfold SetTable.laid; rw [e]; rfl, rfl, rfl, rfl, ?_, ?_, ?_⟩
  · have := perm.length_eq
    rw [← second, List.length_map, List.length_range] at this
    simpa using this
  · exact (ris_live (fun j => own.getD j none) (List.range (mask + 1)) List.pairwise_lt_range).1
  · rw [← second] at perm
    exact perm
end L3
end
section
namespace L3
open PySem PySem.Spec PyProof.Rows L2
theorem toList_eraseAt {α : Type} (xs : Array α) (p : Nat) : (SetTable.eraseAt xs p).toList = xs.toList.eraseIdx p := by
  simp only [SetTable.eraseAt, Array.toList_append, Array.toList_extract, List.extract_eq_take_drop, Nat.sub_zero, List.drop_zero]
  rw [List.eraseIdx_eq_take_drop_succ]
  congr 1
  rw [List.take_of_length_le]
  simp
theorem filterMap_get {α : Type} : ∀ (l : List α), (List.range l.length).filterMap (fun i => l[i]?) = l
  | [] => rfl
  | x :: l => by
    rw [List.length_cons, List.range_succ_eq_map, List.filterMap_cons]
    show x :: ((List.range l.length).map Nat.succ).filterMap (fun i => (x :: l)[i]?) = x :: l
    rw [List.filterMap_map]
    congr 1
    exact filterMap_get l
theorem rawHash_small {k : Int} (h0 : 0 ≤ k) (h8 : k < 8) : hashInt k = k := by
  have : k = 0 ∨ k = 1 ∨ k = 2 ∨ k = 3 ∨ k = 4 ∨ k = 5 ∨ k = 6 ∨ k = 7 := by omega
  rcases this with e | e | e | e | e | e | e | e <;> subst e <;> decide +kernel
/-- a table with nothing in it -/
def Bare (w : World) (h : Heap) (r : Addr) : Prop := ∃ (t : SetTable) (ep : Nat), h.get? r = some { cls := .type "set", dict := none, data := .set #[] ep t } ∧ 7 ≤ t.mask ∧ t.place = #[] ∧ t.dummies = #[] ∧ (w.params.followText "set-order" = true ∨ t.led = true)
section
variable {P : Program} {w : World} {A : Around} {E : Value → Shared → Prop} {s : Shared} {a b : Addr} {S T : Int → Bool} {n m : Nat}

/-- a table laid anew for all entries loses none of them -/
theorem none_lost {es : Array (Int × Value)} {order : Array Nat} (p : order.toList.Perm (List.range es.size)) : (order.filterMap (es[·]?)).toList.Perm es.toList := by
  rw [Array.toList_filterMap]
  refine (p.filterMap _).trans (List.Perm.of_eq ?_)
  have := filterMap_get es.toList
  simpa using this
theorem none_lost_ne {es : Array (Int × Value)} {order : Array Nat} (p : order.toList.Perm (List.range es.size)) : ¬ ((order.filterMap (es[·]?)).size != es.size) = true := by
  have := (none_lost p).length_eq
  rw [Array.length_toList, Array.length_toList] at this
  rw [this, bne_self_eq_false]
  exact Bool.false_ne_true
/-- a bare set with room for k more is bare -/
theorem room_at {r : Addr} {k : Nat} {Q : Unit → Shared → Prop} (hr : Bare w s.heap r) (hk : k ≤ 8) (hQ : ∀ h', Heap.SameBut r s.heap h' → Bare w h' r → Q () { s with heap := h' }) : wpAny (model P w) A (setRoomFor r k) Q E s := by
  obtain ⟨t, ep, there, big, noPlace, noDummy, lead⟩ := hr
  have fit : t.fits (#[] : Array (Int × Value)).size = true := by
    simp [SetTable.fits, SetTable.fill, noPlace, noDummy]
  unfold setRoomFor
  refine wpAny_bind (wpAny_setState_of there rfl fit ?_)
  dsimp only
  have room : t.roomFor k = if k * 5 ≥ t.mask * 3 then some (k * 2) else none := by
    simp [SetTable.roomFor, SetTable.fill, noPlace, noDummy]
  rw [room]
  split
  next wanted hw =>
    have hw2 : wanted = k * 2 := by
      split at hw
      · exact (Option.some.inj hw).symm
      · cases hw
    subst hw2
    have size : 7 ≤ SetTable.sizeAbove (k * 2) - 1 ∧ SetTable.sizeAbove (k * 2) ≤ sizeLine := by
      have : ∀ j : Fin 9, 7 ≤ SetTable.sizeAbove (j.val * 2) - 1 ∧ SetTable.sizeAbove (j.val * 2) ≤ sizeLine := by decide +kernel
      exact this ⟨k, by omega⟩
    obtain ⟨t', order, e1, m1, d1, l1, s1, _, p1⟩ := laid_ok (f := t.finger) (mv := t.movedTo (SetTable.sizeAbove (k * 2) - 1)) (led := t.led) (plain := t.plain) size.1 ((#[] : Array (Int × Value)).map (·.1)) (fun h hh => by simp at hh) (by simp)
    have e2 : t.relaid ((#[] : Array (Int × Value)).map (·.1)) (k * 2) = some (t', order) := e1
    unfold setRelay
    refine wpAny_bind (wpAny_setState_of there rfl fit ?_)
    dsimp only
    refine wp_if_neg (by omega) ?_
    rw [e2]
    have all : order.toList.Perm (List.range (#[] : Array (Int × Value)).size) := by simpa using p1
    have empty : order.filterMap ((#[] : Array (Int × Value))[·]?) = #[] := by
      have := (none_lost all).length_eq
      exact Array.eq_empty_of_size_eq_zero (by simpa using this)
    refine wpAny_bind (wpAny_of_eq (a := (order.filterMap ((#[] : Array (Int × Value))[·]?), t')) (if_neg (none_lost_ne all)) ?_)
    rw [empty]
    refine wpAny_storeSet_of there rfl (hQ _ (Heap.SameBut.update _ _ _) ⟨t', _, store_at there rfl, ?_, Array.eq_empty_of_size_eq_zero (by simpa using s1), d1, ?_⟩)
    · rw [m1]; exact size.1
    · rw [l1]; exact lead
  next => exact wpAny_pure (hQ s.heap (Heap.SameBut.refl _ _) ⟨t, ep, there, big, noPlace, noDummy, lead⟩)
/-- a bare table that is given the entries of a set is that set -/
theorem setR_filled {h : Heap} {r : Addr} {es0 es : Array (Int × Value)} {ep : Nat} {t0 t : SetTable} (there : h.get? r = some { cls := .type "set", dict := none, data := .set es0 ep t0 }) (en : Ents T m es.toList) (small : es.size < scanBound) (fit : t.fits es.size = true) (up : Ris t.place.toList)
    (lead : w.params.followText "set-order" = true ∨ t.led = true) : SetR w (h.update r (Obj.putSet es t)) r T m :=
  ⟨_, es, ep + 1, t, store_at there rfl, ⟨rfl, rfl, rfl⟩, rfl, en.1, en.2.1, en.2.2.1, small, fit, by rw [← Array.length_toList]; exact en.2.2.2, up, lead⟩
theorem fits_of {t : SetTable} {n : Nat} (hp : t.place.size = n) (hd : t.dummies = #[]) (hm : n ≤ t.mask) : t.fits n = true := by
  simp [SetTable.fits, SetTable.fill, hp, hd, hm]
open PySem.Builtin.Frozenset in
theorem merge_at {id : String} {r : Addr} {Q : Unit → Shared → Prop} (Rb : SetR w s.heap b T m) (hk : ∀ k, T k = true → 0 ≤ k ∧ k < 8) (hm8 : m ≤ 7)
    (hr : Bare w s.heap r) (hrb : r ≠ b)
    (hQ : ∀ h', Heap.SameBut r s.heap h' → SetR w h' r T m → Q () { s with heap := h' }) :
    wpAny (model P w) A (merge id r b) Q E s := by
  obtain ⟨o, es, ep, t, b1, _, b2, en, b3, fit, up, lead⟩ := SetR.ents Rb
  have many : es.size = m := by rw [← Array.length_toList]; exact en.2.2.2
  -- small ints are their own hashes
  have own : ∀ e ∈ es.toList, e.1 = keyOf e ∧ 0 ≤ e.1 ∧ e.1 < 8 := by
    intro e he
    obtain ⟨k, tk, e2, e1⟩ := en.1 e he
    have key : keyOf e = k := by unfold keyOf; rw [e2]
    have lim := hk k ((en.2.2.1 k).mpr (List.mem_map.mpr ⟨e, he, key⟩))
    rw [rawHash_small lim.1 lim.2] at e1
    exact ⟨e1.trans key.symm, by omega, by omega⟩
  have hashes : (es.map (·.1)).toList = es.toList.map keyOf := by
    rw [Array.toList_map]
    exact List.map_congr_left fun e he => (own e he).1
  unfold merge
  refine wpAny_bind (wpAny_setEpoch_of b1 b2 fit ?_)
  unfold setMerge
  rw [if_neg (by simpa using hrb)]
  refine wpAny_bind (wpAny_setState_of b1 b2 fit ?_)
  dsimp only
  split
  next nothing =>
    obtain ⟨t0, ep0, q1, q2, q3, q4, q5⟩ := hr
    have e0 : es = #[] := Array.isEmpty_iff.mp nothing
    subst e0
    refine wpAny_pure (hQ s.heap (Heap.SameBut.refl _ _) ⟨_, #[], ep0, t0, q1, ⟨rfl, rfl, rfl⟩, rfl, en.1, en.2.1, en.2.2.1, b3, fits_of (by rw [q3]; rfl) q4 (Nat.zero_le _), many, ?_, q5⟩)
    rw [q3]
    exact List.Pairwise.nil
  next =>
    refine wpAny_bind (room_at hr (by omega) fun h1 same bare => ?_)
    obtain ⟨t0, ep0, q1, q2, q3, q4, q5⟩ := bare
    have bb : h1.get? b = some o := (same.2 b hrb.symm).trans b1
    refine wpAny_bind (wpAny_setState_of q1 rfl (fits_of (by rw [q3]; rfl) q4 (Nat.zero_le _)) ?_)
    dsimp only
    have road : t0.road t = if (t0.mask == t.mask && t.dummies.isEmpty) = true then .slotForSlot else .clean := by
      simp [SetTable.road, SetTable.fill, q3, q4]
    rw [road]
    have leads : w.params.followText "set-order" = true ∨ (t0.led && t.led) = true := by
      rcases lead with z | z
      · exact Or.inl z
      · exact q5.imp (fun x => x) fun y => by rw [y, z]; rfl
    have roomy : es.size ≤ sizeLine := Nat.le_trans (Nat.le_of_lt b3) (by decide)
    by_cases c : (t0.mask == t.mask && t.dummies.isEmpty) = true
    · rw [if_pos c]
      exact wpAny_storeSet_of q1 rfl (hz := roomy) (hQ _ (same.trans (Heap.SameBut.update _ _ _)) (setR_filled q1 en b3 fit up leads))
    · rw [if_neg c]
      obtain ⟨t1, order, e1, m1, d1, l1, s1, up1, p1⟩ := laid_ok (f := t0.finger) (mv := t0.moves) (led := t0.led && t.led) (plain := t0.plain && t.plain) q2 (es.map (·.1)) (fun h hh => by
        rw [Array.toList_map, List.mem_map] at hh
        obtain ⟨e, he, rfl⟩ := hh
        exact (own e he).2) (by rw [hashes]; exact en.2.1)
      have s2 : t1.place.size = es.size := by simpa using s1
      have all : order.toList.Perm (List.range es.size) := by simpa using p1
      have cnt : (order.filterMap (es[·]?)).size = es.size := by
        have := (none_lost all).length_eq
        simpa only [Array.length_toList] using this
      dsimp only
      rw [e1]
      refine wpAny_bind (wpAny_of_eq (a := (order.filterMap (es[·]?), t1)) (if_neg (none_lost_ne all)) ?_)
      refine wpAny_storeSet_of q1 rfl (hz := by rw [cnt]; exact roomy) (hQ _ (same.trans (Heap.SameBut.update _ _ _)) (setR_filled q1 (en.perm (none_lost all)) (by rw [cnt]; exact b3) (fits_of (s2.trans cnt.symm) d1 ?_) up1 (by rw [l1]; exact leads)))
      rw [cnt, m1, many]
      omega
theorem find_key {es : List (Int × Value)} {k : Int} {i : Nat} (h : es.findIdx? (fun e => keyOf e == k) = some i) : ∃ e, es[i]? = some e ∧ keyOf e = k := by
  obtain ⟨lt, hk, _⟩ := List.findIdx?_eq_some_iff_getElem.mp h
  exact ⟨es[i], List.getElem?_eq_getElem lt, by simpa using hk⟩
/-- where the scan stops -/
def stopAt (k : Int) (es : List (Int × Value)) (i : Nat) : ScanMet := match es.findIdx? (fun e => keyOf e == k) with
  | some j => .found (j + i)
  | none => .absent
theorem stopAt_other {k : Int} {e : Int × Value} {es : List (Int × Value)} {i : Nat} (ne : keyOf e ≠ k) : stopAt k (e :: es) i = stopAt k es (i + 1) := by
  unfold stopAt
  rw [List.findIdx?_cons, if_neg (by simpa using ne)]
  cases es.findIdx? (fun e => keyOf e == k) with
  | none => rfl
  | some j => exact congrArg ScanMet.found (by show j + 1 + i = j + (i + 1); omega)
theorem scan_at {o : Obj} {es : Array (Int × Value)} {ep : Nat} {t : SetTable} {k : Int} {tk : Tok} {Q : ScanMet → Shared → Prop} (ho : s.heap.get? a = some o) (hd : o.data = .set es ep t) (hf : t.fits es.size = true) :
    ∀ (l : List (Int × Value)) (i : Nat), (∀ e ∈ l, GoodE e) → Q (stopAt k l i) s → wpAny (model P w) A (setScanFrom a (.int k tk) (hashInt k) false l i) Q E s
  | [], i, _, q => by
    unfold setScanFrom
    exact wpAny_pure q
  | (h', y) :: rest, i, good, q => by
    obtain ⟨k', tk', e2, e1⟩ := good _ List.mem_cons_self
    dsimp only at e1 e2
    subst e1 e2
    have next : keyOf (hashInt k', Value.int k' tk') ≠ k → wpAny (model P w) A (setScanFrom a (.int k tk) (hashInt k) false rest (i + 1)) Q E s :=
      fun ne => scan_at ho hd hf rest (i + 1) (fun e he => good e (List.mem_cons_of_mem _ he)) (stopAt_other (i := i) (es := rest) ne ▸ q)
    unfold setScanFrom
    split
    · refine wpAny_bind (wpAny_setEpoch_of ho hd hf (wpAny_bind (wpAny_eqBool_int ?_)))
      rw [Bool.false_and, if_neg Bool.false_ne_true]
      refine wpAny_bind (m := setEpoch a) (wpAny_setEpoch_of ho hd hf ?_)
      rw [bne_self_eq_false, if_neg Bool.false_ne_true]
      by_cases same : k' = k
      · rw [if_pos (by simpa using same)]
        have here : stopAt k ((hashInt k', Value.int k' tk') :: rest) i = .found i := by
          simp [stopAt, List.findIdx?_cons, keyOf, same]
        rw [here] at q
        exact wpAny_pure q
      · rw [if_neg (by simpa using same)]
        exact next same
    · rename_i differ
      refine next fun same => differ ?_
      have : k' = k := same
      rw [this]
      exact beq_self_eq_true _
theorem scan_for {es : Array (Int × Value)} {k : Int} {tk : Tok} (good : ∀ e ∈ es.toList, GoodE e) (small : es.size < scanBound) : byScan (.int k tk) es = true := by
  have all : es.all (·.2.scannable) = true := by
    refine Array.all_toList ▸ List.all_eq_true.mpr fun e he => ?_
    obtain ⟨k, tk, e2, _⟩ := good e he
    rw [e2]; rfl
  unfold byScan
  rw [all, decide_eq_true small]
  rfl
theorem index_at {o : Obj} {es : Array (Int × Value)} {ep : Nat} {t : SetTable} {k : Int} {tk : Tok} {Q : Option Nat → Shared → Prop} (ho : s.heap.get? a = some o) (hd : o.data = .set es ep t) (hf : t.fits es.size = true) (good : ∀ e ∈ es.toList, GoodE e) (small : es.size < scanBound)
    (h : Q (es.toList.findIdx? (fun e => keyOf e == k)) s) : wpAny (model P w) A (setFind a (.int k tk) (hashInt k)) Q E s := by
  unfold setFind setFindIn
  refine wpAny_bind (m := setState a) (wpAny_setState_of ho hd hf ?_)
  dsimp only
  rw [if_pos (scan_for good small)]
  refine wpAny_bind (wpAny_rule (tag := _) (wpAny_bind (scan_at ho hd hf es.toList 0 good ?_)))
  unfold stopAt
  cases e : es.toList.findIdx? (fun e => keyOf e == k) with
  | none => rw [e] at h; exact wpAny_pure h
  | some i => rw [e] at h; exact wpAny_pure h
theorem ris_erase {xs : Array Nat} (r : Ris xs.toList) (i : Nat) : Ris (SetTable.eraseAt xs i).toList := by
  rw [toList_eraseAt]
  exact r.sublist (List.eraseIdx_sublist _ _)
theorem size_erase {α : Type} {xs : Array α} {i : Nat} (lt : i < xs.size) : (SetTable.eraseAt xs i).size = xs.size - 1 := by
  rw [← Array.length_toList, toList_eraseAt, List.length_eraseIdx_of_lt (by simpa using lt), Array.length_toList]
theorem size_insert {α : Type} (xs : Array α) (i : Nat) (x : α) : (SetTable.insertAt xs i x).size = xs.size + 1 := by
  simp [SetTable.insertAt]
  omega
/-- a member taken out -/
theorem setR_discard {k : Int} {tk : Tok} {Q : Bool → Shared → Prop} (R : SetR w s.heap a S n)
    (hQ : ∀ h', Heap.SameBut a s.heap h' → SetR w h' a (fun j => S j && !decide (j = k)) (if S k = true then n - 1 else n) → Q (S k) { s with heap := h' }) :
    wpAny (model P w) A (setDiscardHashed a (.int k tk) (hashInt k)) Q E s := by
  have R0 := R
  obtain ⟨o, es, ep, t, there, exact_set, data, en, small, fit, up, lead⟩ := SetR.ents R
  unfold setDiscardHashed
  refine wpAny_bind (index_at there data fit en.1 small ?_)
  cases found : es.toList.findIdx? (fun e => keyOf e == k) with
  | none =>
    have out : S k = false := by
      rw [← Bool.not_eq_true, en.2.2.1 k]
      intro hk
      obtain ⟨e, he, ke⟩ := List.mem_map.mp hk
      have := List.findIdx?_eq_none_iff.mp found e he
      simp [ke] at this
    have q := hQ s.heap (Heap.SameBut.refl _ _)
    rw [out, if_neg Bool.false_ne_true] at q
    refine wpAny_pure (q (R0.congr fun j => ?_))
    by_cases e : j = k
    · rw [e, out]; rfl
    · simp [e]
  | some i =>
    obtain ⟨e, ei, ke⟩ := find_key found
    have is_in : S k = true := (en.2.2.1 k).mpr (List.mem_map.mpr ⟨e, List.mem_of_getElem? ei, ke⟩)
    have lt : i < es.size := by simpa using (List.getElem?_eq_some_iff.mp ei).1
    have perm := erase_perm es.toList i e ei
    rw [← toList_eraseAt] at perm
    have nd := (perm.map keyOf).nodup_iff.mpr en.2.1
    rw [List.map_cons, List.nodup_cons, ke] at nd
    have q := fun h' b => hQ h' b
    rw [is_in, if_pos rfl] at q
    refine wpAny_bind (wpAny_setState_of there data fit ?_)
    have fit2 : t.place.size = es.size ∧ t.fill ≤ t.mask := by simpa [SetTable.fits] using fit
    obtain ⟨j, hj⟩ : ∃ j, t.place[i]? = some j := ⟨_, Array.getElem?_eq_getElem (fit2.1 ▸ lt)⟩
    have dropped : t.drop i = { t with place := SetTable.eraseAt t.place i, dummies := SetTable.insertAt t.dummies (SetTable.below t.dummies j) j } := by
      unfold SetTable.drop; rw [hj]
    dsimp only
    rw [dropped]
    have sz : (SetTable.eraseAt es i).size = es.size - 1 := size_erase lt
    refine wpAny_bind (wpAny_storeSet_of there data (hz := Nat.le_trans (Nat.le_of_lt (by omega : (SetTable.eraseAt es i).size < scanBound)) (by decide)) (wpAny_bind (wpAny_point (wpAny_pure (q _ (Heap.SameBut.update _ _ _) ⟨_, _, _, _, store_at there data, exact_set, rfl, ?_, nd.2, ?_, ?_, ?_, ?_, ris_erase up i, lead⟩)))))
    · exact fun x hx => en.1 x (perm.mem_iff.mp (List.mem_cons_of_mem _ hx))
    · intro x
      have m1 : x ∈ es.toList.map keyOf ↔ x = k ∨ x ∈ (SetTable.eraseAt es i).toList.map keyOf := by
        rw [← (perm.map keyOf).mem_iff, List.map_cons, List.mem_cons, ke]
      have m2 := (en.2.2.1 x).trans m1
      by_cases e : x = k
      · subst e; simpa using nd.1
      · simpa [e] using m2
    · omega
    · have a1 : (SetTable.eraseAt t.place i).size = t.place.size - 1 := size_erase (by omega)
      have a2 := size_insert t.dummies (SetTable.below t.dummies j) j
      have a3 : t.place.size + t.dummies.size ≤ t.mask := fit2.2
      have a4 := fit2.1
      have b1 : (SetTable.eraseAt t.place i).size = (SetTable.eraseAt es i).size := by omega
      have b2 : (SetTable.eraseAt t.place i).size + (SetTable.insertAt t.dummies (SetTable.below t.dummies j) j).size ≤ t.mask := by omega
      exact (Bool.and_eq_true _ _).mpr ⟨beq_iff_eq.mpr b1, decide_eq_true b2⟩
    · rw [sz, ← Array.length_toList, en.2.2.2]
end
end L3
end
section
namespace L3
open PySem PySem.Spec PyProof.Rows L2
open PySem.Builtin.Frozenset in
theorem xor_eq (args : Args) : Builtin.«frozenset.__xor__» args = (do
  let (self, other) ← slot1 "__xor__" args
  if !(← isAnySet self <&&> isAnySet other) then rule s!"frozenset.{"__xor__"}.declined"; return ← ret .notImplemented
  let l ← addrOf self
  let v ← (do
    let base ← baseOf l
    let result ← newFrom s!"frozenset.{"__xor__"}" base other
    let ra ← addrOf result
    holding [result] (symmetricDifferenceUpdate s!"frozenset.{"__xor__"}" ra (.ref l))
    return result)
  ret v) := rfl
section
variable {P : Program} {w : World} {A : Around} {E : Value → Shared → Prop} {s : Shared} {a b : Addr} {S T : Int → Bool} {n m : Nat}
/-- one more entry of the other set is turned -/
theorem turned_more {p : Int → Bool} {k : Int} {done : List (Int × Value)} {e : Int × Value} (he : keyOf e = k) (fresh : k ∉ done.map keyOf) (j : Int) :
    (p j != decide (j ∈ (done ++ [e]).map keyOf)) = if j = k then !(p k != decide (k ∈ done.map keyOf)) else (p j != decide (j ∈ done.map keyOf)) := by
  have cut : j ∈ (done ++ [e]).map keyOf ↔ j ∈ done.map keyOf ∨ j = k := by rw [List.map_append, List.mem_append, List.map_singleton, List.mem_singleton, he]
  rw [decide_eq_decide.mpr cut]
  by_cases q : j = k
  · subst q
    rw [if_pos rfl, decide_eq_false fresh, decide_eq_true (Or.inr rfl : j ∈ done.map keyOf ∨ j = j)]
    cases p j <;> rfl
  · rw [if_neg q, decide_eq_decide.mpr (or_iff_left q)]
open PySem.Builtin.Frozenset in
theorem sdu_at {id : String} {r o' : Addr} {Q : Unit → Shared → Prop} (Rr : SetR w s.heap r T m) (Ro : SetR w s.heap o' S n) (hro : r ≠ o') (hb2 : n + m + 1 < scanBound)
    (hQ : ∀ (h' : Heap) (d : Drawn) (c : Nat), Heap.SameBut r s.heap h' → SetR w h' r (fun k => S k != T k) c → Q () { s with heap := h', drawn := d }) :
    wpAny (model P w) A (symmetricDifferenceUpdate id r (.ref o')) Q E s := by
  obtain ⟨o, eo, ep, t, o1, _, o2, _, _, o3, _⟩ := SetR.ents Ro
  unfold symmetricDifferenceUpdate
  rw [if_neg (by simpa using hro.symm)]
  refine wpAny_bind (wpAny_typeOf (SetR.typeIs Ro) ?_)
  rw [if_neg (by decide)]
  refine wpAny_bind (isAnySet_at Ro ?_)
  rw [if_pos rfl]
  refine wpAny_bind (wpAny_pure (wpAny_bind (wpAny_pure (wpAny_bind (wpAny_setEpoch_of o1 o2 o3 (wpAny_holding ?_))))))
  refine wpAny_bind (setWalkUnseen_at Ro Rr (fun x hx => (List.mem_singleton.mp hx) ▸ ⟨T, m, Rr⟩) fun es d h1 en b1 R1 => ?_)
  refine wpAny_bind (PySem.MeetsSeq2.wpAny_forIn_array _ (fun rest _ s2 => ∃ done c h2, s2 = { s with heap := h2, drawn := d } ∧ es.toList = done ++ rest ∧ Heap.SameBut r s.heap h2 ∧ SetR w h2 r (fun k => T k != decide (k ∈ done.map keyOf)) c ∧ c ≤ m + done.length) _ ?_ ?_ _ _ ?_)
  · rintro x rest _ _ ⟨done, c, h2, rfl, cut, b2, R2, le⟩
    have len : done.length + (rest.length + 1) = n := by rw [← en.2.2.2, cut]; simp
    obtain ⟨k, tk, x2, x1⟩ := en.1 x (by rw [cut]; simp)
    have key : keyOf x = k := by unfold keyOf; rw [x2]
    have fresh : k ∉ done.map keyOf := by
      have nd := en.2.1
      rw [cut, List.map_append, List.nodup_append] at nd
      exact fun hk => nd.2.2 k hk k (by rw [List.map_cons, key]; exact List.mem_cons_self) rfl
    obtain ⟨x1', x2'⟩ := x
    dsimp only at x1 x2
    subst x1 x2
    have after : ∀ {h3 : Heap} (Z : Unit → Shared → Prop), Heap.SameBut r h2 h3 → Z () { s with heap := h3, drawn := d } → wpAny (model P w) A (unchanged id o' ep) Z E { s with heap := h3, drawn := d } :=
      fun Z b3 z => unchanged_at (((b2.trans b3).2 o' hro.symm).trans o1) o2 o3 z
    have cut' : es.toList = (done ++ [(hashInt k, Value.int k tk)]) ++ rest := by rw [cut, List.append_assoc, List.singleton_append]
    have more := turned_more (p := T) (e := (hashInt k, Value.int k tk)) key fresh
    have lenz : (done ++ [(hashInt k, Value.int k tk)]).length = done.length + 1 := by simp
    refine wpAny_bind (wpAny_holding (wpAny_bind (setR_discard R2 fun h3 b3 R3 => ?_)))
    dsimp only
    have Tk : (T k != decide (k ∈ done.map keyOf)) = T k := by rw [decide_eq_false fresh]; cases T k <;> rfl
    rw [Tk] at more R3 ⊢
    cases was : T k with
    | true =>
      rw [was] at more
      refine wpAny_pure (wpAny_bind (after _ b3 (wpAny_pure ⟨_, _, h3, rfl, cut', b2.trans b3, R3.congr fun j => ?_, ?_⟩)))
      · rw [more j]
        by_cases q : j = k
        · simp [q]
        · simp [q]
      · rw [was, if_pos rfl, lenz]; omega
    | false =>
      rw [was] at more
      rw [was, if_neg Bool.false_ne_true] at R3
      refine wpAny_bind (setR_add_hashed (tk := tk) R3 (by omega) fun h4 b4 R4 => wpAny_pure (wpAny_bind (after _ (b3.trans b4) (wpAny_pure ⟨_, _, h4, rfl, cut', b2.trans (b3.trans b4), R4.congr fun j => ?_, ?_⟩))))
      · rw [more j]
        by_cases q : j = k
        · simp [q]
        · simp [q]
      · rw [lenz]
        split <;> omega
  · rintro _ _ ⟨done, c, h2, rfl, cut, b2, R2, le⟩
    rw [List.append_nil] at cut
    refine wpAny_pure (hQ h2 d c b2 (R2.congr fun k => ?_))
    rw [← cut, Bool.eq_iff_iff.mpr ((en.2.2.1 k).trans decide_eq_true_iff.symm)]
    cases T k <;> cases decide (k ∈ es.toList.map keyOf) <;> rfl
  · exact ⟨[], m, h1, rfl, rfl, b1, R1.congr fun k => by cases T k <;> rfl, Nat.le_refl _⟩
open PySem.Builtin.Frozenset in
theorem newFrom_at {id : String} {Q : Value → Shared → Prop} (Rb : SetR w s.heap b T m) (hk : ∀ k, T k = true → 0 ≤ k ∧ k < 8) (hm8 : m ≤ 7)
    (hQ : ∀ h', (∀ x o, s.heap.get? x = some o → h'.get? x = some o) → SetR w h' s.heap.objs.size T m → Q (.ref s.heap.objs.size) { s with heap := h' }) :
    wpAny (model P w) A (newFrom id (.type "set") (.ref b)) Q E s := by
  have lb := Rb.lt
  unfold newFrom
  refine wpAny_bind (newSet_at fun h0 old _ bare => ?_)
  obtain ⟨t, t1, t2, t3, t4, t5⟩ := bare
  have Rb0 : SetR w h0 b T m := Rb.at (old b)
  refine wpAny_bind (wpAny_pure (wpAny_bind (wpAny_holding ?_)))
  unfold updateFrom
  refine wpAny_bind (isAnySet_at (s := { s with heap := h0 }) Rb0 ?_)
  rw [if_pos rfl]
  refine wpAny_bind (wpAny_pure (merge_at (s := { s with heap := h0 }) Rb0 hk hm8 ⟨t, 0, t1, Nat.le_of_eq t2.symm, t3, t4, t5⟩ (Nat.ne_of_gt lb) fun h1 b1 R1 => wpAny_pure (hQ h1 (fun x o z => (b1.2 x (Nat.ne_of_lt (Heap.lt_size z))).trans (old x o z)) R1)))
open PySem.Builtin.Frozenset in
theorem call_xor {Q : Value → Shared → Prop} (Ra : SetR w s.heap a S n) (Rb : SetR w s.heap b T m) (hk : ∀ k, T k = true → 0 ≤ k ∧ k < 8) (hm8 : m ≤ 7) (hn8 : n ≤ 1000)
    (hQ : ∀ (h' : Heap) (d : Drawn) (c : Nat), (∀ x o, s.heap.get? x = some o → h'.get? x = some o) → SetR w h' s.heap.objs.size (fun k => S k != T k) c → Q (.ref s.heap.objs.size) { s with heap := h', drawn := d }) :
    wpAny (model P w) A (binaryOp .BitXor (.ref a) (.ref b)) Q E s := by
  have sa := SetR.typeIs Ra
  have la := Ra.lt
  refine wpAny_binaryOp_same sa (SetR.typeIs Rb) PySem.F.fills_set_xor PySem.F.slot_set_xor (wpAny_call_entry PySem.F.slot_set_xor sa entry_set_xor ?_ (PySem.F.args_set_xor_2 _ _))
  rw [xor_eq]
  refine wpAny_bind (wpAny_pure (wpAny_bind (m := andM _ _) ?_))
  unfold andM
  refine wpAny_bind (isAnySet_at Ra (isAnySet_at Rb ?_))
  refine wpAny_bind (wpAny_pure (wpAny_bind (wpAny_bind (base_at Ra (wpAny_bind (newFrom_at Rb hk hm8 fun h0 old R0 => ?_))))))
  have big : scanBound = 4096 := rfl
  refine wpAny_bind (wpAny_pure (wpAny_bind (wpAny_holding (sdu_at (s := { s with heap := h0 }) R0 (Ra.at (old a)) (Nat.ne_of_gt la) (by omega) fun h1 d c b1 R1 => ?_))))
  exact wpAny_pure (wpAny_pure ⟨_, rfl, Value.noConfusion, hQ h1 d c (fun x o z => (b1.2 x (Nat.ne_of_lt (Heap.lt_size z))).trans (old x o z)) R1⟩)
end
end L3
end
section
namespace L3
open PySem PySem.Spec PyProof.Rows L2
theorem SetR.card {w : World} {h : Heap} {a : Addr} {S : Int → Bool} {n : Nat} (R : SetR w h a S n) {L : List Int} (nd : L.Nodup) (hL : ∀ k, S k = true ↔ k ∈ L) : n = L.length := by
  obtain ⟨_, es, _, _, _, _, _, _, nde, hm, _, _, hn, _⟩ := R
  have p : (es.toList.map keyOf).Perm L := (List.perm_ext_iff_of_nodup nde nd).mpr fun k => (hm k).symm.trans (hL k)
  rw [← p.length_eq, List.length_map, Array.length_toList, hn]
section
variable {X : Cx}
def rSetOfI (K : PySem.W.Frag) (w : World) : List V → Hp → VK → Prop := fun vs H Q => ∃ (l : Addr) (ns : List Int), vs = [.ref l] ∧ SqT K H l (ns.map V.int) ∧ ns.length ≤ 1000 ∧ ∀ (p : Addr) (c : Nat), H p = none → c ≤ ns.length → Q (.ref p) (upd H p (SetO w p (fun j => decide (j ∈ ns)) c))
/-- a set has come that was not there -/
theorem set_came {pins : List (Addr × Obj)} {σ : L2.St} {H : Hp} {s : Shared} {h' : Heap} {d : Drawn} {n c : Nat} {a : Addr} {S : Int → Bool} {Q : VK} (I : Inv X pins σ H s) (keep : ∀ b o, s.heap.get? b = some o → h'.get? b = some o) (le : s.heap.objs.size ≤ a) (R : SetR X.w h' a S c)
    (q : H a = none → Q (.ref a) (upd H a (SetO X.w a S c))) : EP X pins σ Q (.ref a) { s with heap := h', drawn := d, toks := n } := by
  have free := I.hok.fresh le
  refine ⟨.ref a, _, ?_, rfl, q free⟩
  exact I.call (ch := []) (Un.laid keep le free) (I.hok.laid keep le (setO_new R)) I.bare fun _ z => nomatch z
theorem cr_setOfI (hc : X.calm = true) : CallR X (.type "set") (rSetOfI X.K X.w) := by
  rintro pins s σ H _ us Q I r ⟨l, ns, rfl, sq, few, q⟩
  obtain ⟨its, rv, tup, _⟩ := I.tuple sq
  rw [Vals.ref1 r]
  have small : ns.length + 1 < scanBound := Nat.lt_of_le_of_lt (Nat.succ_le_succ few) (by decide)
  exact call_set_tupI ns (I.ok.hd hc) tup (ints_of_vals rv) small fun h' n c R le keep => set_came (d := s.drawn) I keep (Nat.le_refl _) R fun free => q _ _ free le
def rSetAnd (w : World) : R2 := fun x y H Q => ∃ (a b : Addr) (S T : Int → Bool) (n m : Nat), x = .ref a ∧ y = .ref b ∧ a ≠ b ∧ H a = some (SetO w a S n) ∧ H b = some (SetO w b T m) ∧
  ∀ (p : Addr) (c : Nat), H p = none → Q (.ref p) (upd H p (SetO w p (fun k => S k && T k) c))
theorem op_setAnd : OpR X (binaryOp .BitAnd) (rSetAnd X.w) := by
  rintro pins s σ H _ _ v u Q I rx ry ⟨a, b, S, T, n, m, rfl, rfl, ne, at_a, at_b, q⟩
  rw [show v = .ref a from rx, show u = .ref b from ry]
  exact call_and (setO_get I at_a) (setO_get I at_b) ne fun h' d c keep R => set_came I keep (Nat.le_refl _) R (q _ c)
def rSetXor (w : World) : R2 := fun x y H Q => ∃ (a b : Addr) (S T : Int → Bool) (n m : Nat), x = .ref a ∧ y = .ref b ∧ H a = some (SetO w a S n) ∧ H b = some (SetO w b T m) ∧ (∀ k, T k = true → 0 ≤ k ∧ k < 8) ∧ m ≤ 7 ∧ n ≤ 1000 ∧
  ∀ (p : Addr) (c : Nat), H p = none → Q (.ref p) (upd H p (SetO w p (fun k => S k != T k) c))
theorem op_setXor : OpR X (binaryOp .BitXor) (rSetXor X.w) := by
  rintro pins s σ H _ _ v u Q I rx ry ⟨a, b, S, T, n, m, rfl, rfl, at_a, at_b, low, few, many, q⟩
  rw [show v = .ref a from rx, show u = .ref b from ry]
  exact call_xor (setO_get I at_a) (setO_get I at_b) low few many fun h' d c keep R => set_came I keep (Nat.le_refl _) R (q _ c)
def rLenSet (w : World) : List V → Hp → VK → Prop := fun vs H Q => ∃ (a : Addr) (S : Int → Bool) (n : Nat) (L : List Int), vs = [.ref a] ∧ H a = some (SetO w a S n) ∧ L.Nodup ∧ (∀ k, S k = true ↔ k ∈ L) ∧ Q (.int (L.length : Nat)) H
theorem call_lenSet : CallR X (.builtin "len") (rLenSet X.w) := by
  rintro pins s σ H _ us Q I r ⟨a, S, n, L, rfl, at_a, nd, mem, q⟩
  rw [Vals.ref1 r]
  have R := setO_get I at_a
  have many := SetR.card R nd mem
  obtain ⟨o, es, _, _, there, ex, data, _, _, _, small, fit, size, _⟩ := R
  refine call_len_set there ex data fit (by have line : scanBound = 4096 := rfl; omega) ?_
  rw [size, many]
  exact ⟨.int (L.length : Nat), H, I.tok _, ⟨_, rfl⟩, q⟩
end
end L3
end
section
namespace L3
open PySem PySem.Spec PyProof.Rows L2
section
variable {X : Cx} {pins : List (Addr × Obj)} {σ : L2.St} {H : Hp} {s : Shared} {E : Value → Shared → Prop}
/-- one more row in a dict of lots; nothing else of the heap moves -/
theorem put_lot {D b : Addr} {kvs : List (List Key × V)} {k : List Key} {v : V} {r : Value} {Q : Unit → Shared → Prop} (hu : X.A.units < cLine) (I : Inv X pins σ H s) (hD : H D = some (.dT kvs)) (hz : kvs.length < sizeLine) (hb : H b = some (.tup (k.map kV))) (rv : RelV v r)
    (h : ∀ h' n, Heap.SameBut D s.heap h' → Inv X pins σ (upd H D (.dT (putK kvs k v))) { s with heap := h', toks := n } → Q () { s with heap := h', toks := n }) : wpAny (model X.prog X.w) X.A (dictSet D (.ref b) r) Q E s := by
  obtain ⟨_, nsys, rows, paired, dict⟩ := dt_of I.hok hD
  have few : rows.length ≤ sizeLine := by
    rw [← paired.length]
    exact Nat.le_of_lt hz
  refine wpAny_dictSet_heap hu (key_of I.hok hb) dict (hsz := few) fun h' after same => h h' _ same (d_write I (by rw [hD]; trivial) same ?_ ?_)
  · obtain ⟨o, _, _, there, _⟩ := after
    exact ⟨o, there⟩
  · have more : (putK kvs k v).length ≤ sizeLine := Nat.le_trans (length_putK kvs k v) hz
    obtain ⟨o, es, ep, a1, a2, a3, a4, _, a5⟩ := after
    refine ⟨more, nsys, _, (paired.put k hb rv).keeps fun c ys e => ?_, o, es, ep, a1, a2, a3, a4, a5⟩
    rw [upd_ne (ne_of e hD (fun z => HO.noConfusion z))]
    exact e
end
/-- the dict behind the first lots -/
def dLots (c : V) (ks : List (List Key)) : List (List Key × V) := ks.foldl (fun m k => putK m k c) []
theorem dLots_snoc (c : V) (ks : List (List Key)) (k : List Key) : dLots c (ks ++ [k]) = putK (dLots c ks) k c := by unfold dLots; rw [List.foldl_append]; rfl
theorem dLots_len (c : V) (ks : List (List Key)) : (dLots c ks).length ≤ ks.length := by
  have go : ∀ (l : List (List Key)) (m : List (List Key × V)), (l.foldl (fun m k => putK m k c) m).length ≤ m.length + l.length := by
    intro l
    induction l with
    | nil => intro m; exact Nat.le_refl _
    | cons k l ih =>
      intro m
      have := ih (putK m k c)
      have := length_putK m k c
      rw [List.length_cons, List.foldl_cons]
      omega
  have := go ks []
  simpa [dLots] using this
/-- xs are tracked tuples with the keys ks -/
def KeysAt (H : Hp) (xs : List V) (ks : List (List Key)) : Prop := xs.length = ks.length ∧ ∀ (i : Nat) (x : V), xs[i]? = some x → ∃ (b : Addr) (k : List Key), x = .ref b ∧ ks[i]? = some k ∧ H b = some (.tup (k.map kV))
/-- {x: c for x in t}, t a tuple of lots -/
def tDLots (K : PySem.W.Frag) (tl : TE) (c : V) : TE := fun σ H Q => tl σ H fun x H1 => ∃ (a : Addr) (xs : List V) (ks : List (List Key)), x = .ref a ∧ SqT K H1 a xs ∧ KeysAt H1 xs ks ∧ xs.length < sizeLine ∧ ∀ D, H1 D = none → Q (.ref D) (upd H1 D (.dT (dLots c ks)))
/-- a local name of a comprehension is local in its own names, too -/
theorem relabel_local {sc : Scope} {env : Env} {x : Str} (hx : sc.names.lookup x = some .local) : (relabel sc env).names.lookup x = some .local := by
  have go : ∀ l : List (Str × NameKind), l.lookup x = some .local → (l.map fun (n, k) => if (k == .free && env.scope.kind == .function && env.kindOf n == some .cell) then (n, .cell) else (n, k)).lookup x = some .local := by
    intro l
    induction l with
    | nil => intro h; cases h
    | cons p l ih =>
      obtain ⟨n, k⟩ := p
      intro h
      rw [List.lookup_cons] at h
      cases same : (x == n) with
      | true =>
        rw [same] at h
        have kl : k = .local := Option.some.inj h
        subst kl
        show List.lookup x ((n, NameKind.local) :: _) = _
        rw [List.lookup_cons, same]
      | false =>
        rw [same] at h
        have h' := ih h
        rw [List.map_cons]
        dsimp only
        split
        · rw [List.lookup_cons, same]; exact h'
        · rw [List.lookup_cons, same]; exact h'
  exact go sc.names hx
section
variable {X : Cx}
theorem pe_dLots {x : Str} {bb : Bool} {j : Nat} {iter : Expr} {scope : Scope} {p0 p1 p2 pos : Pos} {tl : TE} {own : List (Str × Nat)} (hc : X.calm = true) (hu : X.A.units < cLine) (ok : BlkOk X.N X.env.scope scope own) (he : PE X iter tl)
    (hcell : ∀ y ∈ scope.names, y.2 ≠ .cell := by decide) (hx : scope.names.lookup x = some .local := by rfl) (hdbg : (x == ("__debug__" : Str)) = false := by decide) (hs : ∀ y, foldedSetIterable iter X.env y = pure y := by intro _; rfl) :
    PE X (.DictComp (.Name x p1) (.Constant (.bool bb) j p2) [⟨.Name x p0, iter, [], 0⟩] scope pos) (tDLots X.K tl (.bl bb)) := by
  constructor
  intro pins s σ H Q I h
  have frees : ∀ y ∈ scope.names, y.2 = .free → ∃ c, X.env.cells.lookup y.1 = some c := fun y m z => I.ok.has _ (ok.free y m z)
  refine DictComp_goes (closure_ok frees) hcell ok.kind (fun y m z => (ok.uniq y m).trans (congrArg some z)) ?_ hs
  refine thn (he.run pins s σ H _ I h) fun v s1 came => ?_
  obtain ⟨x0, H1, I1, r, t, xs, ks, rfl, hq, ⟨many, keys⟩, few, q⟩ := came
  obtain rfl : v = .ref t := r
  obtain ⟨its, rv, tup, _⟩ := I1.tuple hq
  have li : its.length = ks.length := rv.length.symm.trans many
  refine wpAny_pyIter_tuple tup ?_
  obtain ⟨N, hN⟩ : ∃ N, N = s1.heap.objs.size := ⟨_, rfl⟩
  rw [← hN]
  have it_new : (s1.heap.push { cls := .type "tuple_iterator", data := .fields #[.ref t, .int 0 0] }).get? N = some _ := hN ▸ Heap.get?_push_size s1.heap rfl
  have above : (s1.heap.push { cls := .type "tuple_iterator", data := .fields #[.ref t, .int 0 0] }).objs.size = N + 1 := by rw [hN]; simp [Heap.push]
  have tN : t ≠ N := by
    obtain ⟨o, ho, _⟩ := tup
    exact hN ▸ Nat.ne_of_lt (Heap.lt_size ho)
  refine ⟨N, [N, t], [N], its.toArray.size, _, _, rfl, Goes.tuple (I1.ok.hd hc) N t tN its.toArray, ⟨⟨_, it_new, rfl, rfl⟩, ?_⟩, fun D C s3 begun empty => ?_⟩
  · obtain ⟨o, ho, oc, od⟩ := tup
    exact ⟨o, Heap.get?_push_of_some _ ho, oc, od⟩
  obtain ⟨⟨h3, n3, rfl⟩, old, newD, newC, DC, names⟩ := begun
  dsimp only at old newD newC names empty
  rw [above] at newD newC
  have size_le : s1.heap.objs.size ≤ D ∧ s1.heap.objs.size ≤ C ∧ N ≠ D ∧ N ≠ C := ⟨by omega, by omega, Nat.ne_of_lt newD, Nat.ne_of_lt newC⟩
  have free : H1 D = none := I1.hok.fresh size_le.1
  have outside : ∀ (m : List (List Key × V)) (b : Addr), b = N ∨ b = C → FpOk X pins (upd H1 D (.dT m)) b := by
    intro m b hb
    have le : s1.heap.objs.size ≤ b ∧ b ≠ D := hb.elim (fun e => e ▸ ⟨Nat.le_of_eq hN.symm, size_le.2.2.1⟩) fun e => e ▸ ⟨size_le.2.1, DC.symm⟩
    exact I1.fpOk le.1 (by rw [upd_ne le.2]; exact I1.hok.fresh le.1)
  have start : Inv X pins σ (upd H1 D (.dT [])) { s1 with heap := h3, toks := n3 } := by
    refine I1.laid (fun b u e => old b u (Heap.get?_push_of_some _ e)) size_le.1 ⟨Nat.zero_le _, ?_, [], .nil, _, #[], 0, empty, ⟨rfl, rfl, rfl⟩, rfl, rfl, List.nodup_nil⟩
    have big := I1.big
    exact beq_false_of_ne (Nat.ne_of_gt (Nat.lt_of_lt_of_le big size_le.1))
  refine ⟨fun i s' => Inv X pins σ (upd H1 D (.dT (dLots (.bl bb) (ks.take i)))) s' ∧ ∃ m, s'.heap.Ns C m, ⟨start, _, names⟩, ?_, ?_, ?_⟩
  · rintro i s' h' n ⟨J, m, ns⟩ keep _
    refine ⟨J.turnedL (ch := [N]) keep fun b hb => outside _ b (Or.inl (List.mem_singleton.mp hb)), m, ns.at fun o e => keep C o ?_ e⟩
    exact fun hb => size_le.2.2.2 (List.mem_singleton.mp hb).symm
  · rintro i v s4 lt yi st ⟨J, m, ns⟩
    have lt' : i < xs.length := by rw [rv.length]; simpa using lt
    obtain ⟨b, k, xe, ke, hb⟩ := keys i xs[i] (List.getElem?_eq_getElem lt')
    obtain ⟨u, ui, ru⟩ := rv.get (List.getElem?_eq_getElem lt')
    have vb : v = .ref b := by
      have : its.toArray[i]? = some u := by simpa using ui
      rw [xe] at ru
      exact (Option.some.inj (yi.symm.trans this)).trans ru
    subst vb
    have loc : (compEnvC scope (cloFrom X.env.cells scope.names []) C X.env).kindOf x = some .local := relabel_local hx
    have fn : (compEnvC scope (cloFrom X.env.cells scope.names []) C X.env).scope.kind = .function := ok.kind
    refine wpAny_assign_Name (wpAny_storeName_local loc ns (hp := by rw [fn]; rfl) fun h4 ns4 same4 => ?_)
    have J4 : ∀ n, Inv X pins σ (upd H1 D (.dT (dLots (.bl bb) (ks.take i)))) { s4 with heap := h4, toks := n } := fun n =>
      J.turnedL (t' := n) (ch := [C]) (fun c o hc e => (same4.2 c fun z => hc (List.mem_singleton.mpr z)).trans e) fun c hc => outside _ c (Or.inr (List.mem_singleton.mp hc))
    refine wpAny_pure ?_
    rw [if_pos rfl]
    refine wpAny_Name (wpAny_loadName_local fn loc ns4 (if_pos rfl) (wpAny_Constant_bool ?_)) hdbg
    have rows_few : (dLots (.bl bb) (ks.take i)).length < sizeLine := by
      have := dLots_len (.bl bb) (ks.take i)
      rw [List.length_take] at this
      omega
    have stays : (upd H1 D (.dT (dLots (.bl bb) (ks.take i)))) b = some (.tup (k.map kV)) := by
      rw [upd_ne fun z => by rw [z, free] at hb; cases hb]
      exact hb
    refine put_lot (v := .bl bb) hu (J4 _) upd_same rows_few stays rfl fun h5 n same5 J5 => ⟨⟨?_, _, ns4.sameBut same5 DC.symm⟩, ?_⟩
    · rw [upd_upd, ← dLots_snoc] at J5
      rw [List.take_add_one, ke]
      exact J5
    · obtain ⟨⟨oN, gN, cN, dN⟩, oT, gT, cT, dT⟩ := st
      have t_low : t < N := hN ▸ (tup.elim fun o z => Heap.lt_size z.1)
      have tC : t ≠ C := Nat.ne_of_lt (Nat.lt_trans t_low newC)
      have tD : t ≠ D := Nat.ne_of_lt (Nat.lt_trans t_low newD)
      exact ⟨⟨oN, (same5.2 N size_le.2.2.1).trans ((same4.2 N size_le.2.2.2).trans gN), cN, dN⟩, oT, (same5.2 t tD).trans ((same4.2 t tC).trans gT), cT, dT⟩
  · rintro s' ⟨J, m, ns⟩
    refine ⟨m, ns, fun h' same => ⟨.ref D, upd H1 D (.dT (dLots (.bl bb) ks)), ?_, rfl, q D free⟩⟩
    have all : ks.take its.toArray.size = ks := List.take_of_length_le (by simp [li])
    rw [all] at J
    exact J.turnedL (t' := s'.toks) (ch := [C]) (fun b o hb e => (same.2 b fun z => hb (List.mem_singleton.mpr z)).trans e) fun b hb => outside _ b (Or.inr (List.mem_singleton.mp hb))
end
end L3
end
section
namespace W7
open PySem PySem.Spec PyProof.Rows L2 L3
open C8 (Cal pe_c Mak pe_mk Met pe_mt pe_mt0)
def top (i : Nat) : Stmt := PySem.Challenge.pw_turnlots_k36_within_a_depth.main.body.getD i (.Pass ⟨0, 0, 0, 0⟩)
abbrev FnP (K : PySem.W.Frag) (x : Str) (st : Stmt) (f : Addr) (fd : FuncData) : Prop := FunD K x x (defArgs st) (defBody st) (defScope st) [] [] f fd
/-- the built-in names that the module leaves alone -/
structure Bi (mg : Str → Option Value) : Prop where
  len : mg "len" = none
  min : mg "min" = none
  max : mg "max" = none
  int : mg "int" = none
  range : mg "range" = none
  sorted : mg "sorted" = none
  tuple : mg "tuple" = none
  list : mg "list" = none
  set : mg "set" = none
  isinstance : mg "isinstance" = none
  bool : mg "bool" = none
  enumerate : mg "enumerate" = none
  any : mg "any" = none
  all : mg "all" = none
  sum : mg "sum" = none
  reversed : mg "reversed" = none
  abs : mg "abs" = none
section
variable {P : Program} {w : World} {K : PySem.W.Frag} {mg : Str → Option Value} {base : Heap}
theorem mkCal {x : Str} {st : Stmt} {f : Addr} {fd : FuncData} {N ps : List Str} {k : Nat} {sp : Sp} (F : FnP K x st f fd) (g : mg x = some (.ref f)) (S : FnScope N ps (defScope st))
    (hb : ∀ (kV doc pm : Value) (an : Option Addr) (cdv ct : Value) (us : List Value), us.length = ps.length → bindArgs (PySem.W.fnOf x x (defArgs st) (defBody st) (defScope st) .none kV doc pm an cdv ct) ⟨us, []⟩ = pure (ps.zip us))
    (len : ∀ vs H Q E, sp vs H Q E → vs.length = ps.length) (body : ∀ (cdv : Value) (A : Around) (outer : List Env) (s : Shared) (H : Hp) (vs : List V) (Q : VK) (E : XK), Room k (A.deeper (envOfC x (defScope st) s.heap.objs.size f cdv)) → sp vs H Q E →
      ∃ t, PSs (cxOf CX0 P w K mg base N x (defScope st) f cdv A outer s H E).nox (defBody st) t ∧ t { nx := fun _ H' => Q .non H', rt := Q } (start N vs) H) : Cal P w K mg base (k + 1) x sp [] :=
  ⟨f, fd, ps, [], F.ok S len fun cdv A outer s H vs Q E hr h => (body cdv A outer s H vs Q E hr h).elim fun t z => ⟨t, z.1.nox, z.2⟩, g, F.kp, F.bindsN hb, .nil⟩
end
end W7
end
section
namespace W7
open PySem PySem.Spec PyProof.Rows L2 L3
/-! ### heaps: what only grows -/
/-- tuples are kept -/
def TK (H H' : Hp) : Prop := ∀ b xs, H b = some (.tup xs) → H' b = some (.tup xs)
theorem Same.tk {H H' : Hp} (s : Same H H') : TK H H' := fun b xs e => s b _ e
theorem same_upd {H : Hp} {p : Addr} {o : HO} (n : H p = none) : Same H (upd H p o) := fun b u e => by rw [upd_ne (ne_of_none e n)]; exact e
theorem Same.upd_of {H H' : Hp} {p : Addr} {o : HO} (s : Same H H') (n : H p = none) : Same H (upd H' p o) := fun b u e => by rw [upd_ne (ne_of_none e n)]; exact s _ _ e
/-- all but a is kept -/
def SameBut (a : Addr) (H H' : Hp) : Prop := ∀ b o, b ≠ a → H b = some o → H' b = some o
theorem Same.but {a : Addr} {H H' : Hp} (s : Same H H') : SameBut a H H' := fun b o _ e => s b o e
theorem SameBut.trans {a : Addr} {H H1 H2 : Hp} (s : SameBut a H H1) (t : SameBut a H1 H2) : SameBut a H H2 := fun b o n e => t b o n (s b o n e)
/-- the tuple of the ints ns -/
def TupI (H : Hp) (x : V) (ns : List Int) : Prop := ∃ t, x = .ref t ∧ H t = some (.tup (ns.map V.int))
theorem TupI.tk {H H' : Hp} {x : V} {ns : List Int} (h : TupI H x ns) (k : TK H H') : TupI H' x ns := by
  obtain ⟨t, e, h⟩ := h
  exact ⟨t, e, k _ _ h⟩
end W7
end
section
namespace W7
open PySem PySem.Spec PyProof.Rows L2 L3 Evl
/-! ### operators over naturals -/
def rN (C : Nat → Nat → Prop) (g : Nat → Nat → V) : R2 := fun x y H Q => ∃ a b : Nat, x = .int (a : Nat) ∧ y = .int (b : Nat) ∧ C a b ∧ Q (g a b) H
def rN0 (g : Nat → Nat → V) : R2 := fun x y H Q => ∃ a b : Nat, x = .int (a : Nat) ∧ y = .int (b : Nat) ∧ Q (g a b) H
section
variable {X : Cx}
theorem conv {f : Value → Value → Sem Value} {r r' : R2} (ho : OpR X f r) (h : ∀ x y H Q, r' x y H Q → r x y H Q) : OpR X f r' := fun pins s σ H x y v u Q I rx ry q => ho pins s σ H x y v u Q I rx ry (h x y H Q q)
theorem convIx {r r' : R2} (ho : IxR X r) (h : ∀ x y H Q, r' x y H Q → r x y H Q) : IxR X r' := fun a b pins s σ H x y v u Q I rx ry q => ho a b pins s σ H x y v u Q I rx ry (h x y H Q q)
theorem nat0 {f : Value → Value → Sem Value} {gi : Int → Int → V} {gn : Nat → Nat → V} (ho : OpR X f (rI0 gi)) (h : ∀ a b : Nat, gn a b = gi a b) : OpR X f (rN0 gn) := conv ho fun x y H Q ⟨a, b, e1, e2, q⟩ => ⟨a, b, e1, e2, by rw [← h]; exact q⟩
theorem nat1 {f : Value → Value → Sem Value} {C : Int → Int → Prop} {D : Nat → Nat → Prop} {gi : Int → Int → V} {gn : Nat → Nat → V} (ho : OpR X f (rI C gi)) (hc : ∀ a b : Nat, D a b → C a b) (h : ∀ a b : Nat, D a b → gn a b = gi a b) : OpR X f (rN D gn) := conv ho fun x y H Q ⟨a, b, e1, e2, c, q⟩ => ⟨a, b, e1, e2, hc a b c, by rw [← h a b c]; exact q⟩
theorem natC {f : Value → Value → Sem Value} {D : Nat → Nat → Prop} {gi : Int → Int → V} {gn : Nat → Nat → V} (ho : OpR X f (rI0 gi)) (h : ∀ a b : Nat, D a b → gn a b = gi a b) : OpR X f (rN D gn) := conv ho fun x y H Q ⟨a, b, e1, e2, c, q⟩ => ⟨a, b, e1, e2, by rw [← h a b c]; exact q⟩
theorem on_and : OpR X (binaryOp .BitAnd) (rN0 fun a b => .int ((a &&& b : Nat) : Int)) := nat0 op_and fun a b => by rw [and_nat]
theorem on_or : OpR X (binaryOp .BitOr) (rN0 fun a b => .int ((a ||| b : Nat) : Int)) := nat0 op_or fun a b => by rw [or_nat]
theorem on_xor : OpR X (binaryOp .BitXor) (rN0 fun a b => .int ((a ^^^ b : Nat) : Int)) := nat0 op_xor fun a b => by rw [xor_nat]
theorem on_add : OpR X (binaryOp .Add) (rN0 fun a b => .int ((a + b : Nat) : Int)) := nat0 op_add fun a b => by rw [Int.natCast_add]
theorem on_iadd : OpR X (inplaceOp .Add) (rN0 fun a b => .int ((a + b : Nat) : Int)) := nat0 iop_add fun a b => by rw [Int.natCast_add]
def ipN (g : Nat → Nat → Nat) : TIp := fun x y H Q => ∃ a b : Nat, x = .int (a : Nat) ∧ y = .int (b : Nat) ∧ Q (.int (g a b : Nat)) H
theorem ip_addN : PIp X .Add (ipN fun a b => a + b) := fun pins s σ H x y v u Q I r1 r2 ⟨a, b, e1, e2, q⟩ => ip_add pins s σ H x y v u Q I r1 r2 ⟨a, b, e1, e2, by show Q (V.int ((a : Int) + (b : Int))) H; rw [← Int.natCast_add]; exact q⟩
theorem on_sub : OpR X (binaryOp .Sub) (rN (fun a b => b ≤ a) fun a b => .int ((a - b : Nat) : Int)) := natC op_sub fun a b h => by rw [Int.ofNat_sub h]
theorem on_shl : OpR X (binaryOp .LShift) (rN (fun a b => a < 64 ∧ b < 64) fun a b => .int ((a <<< b : Nat) : Int)) := nat1 op_shl (fun a b h => by unfold CPow; omega) fun a b h => by rw [shl_nat]
theorem on_shr : OpR X (binaryOp .RShift) (rN0 fun a b => .int ((a >>> b : Nat) : Int)) := conv op_shr fun x y H Q ⟨a, b, e1, e2, q⟩ => ⟨a, b, e1, e2, by omega, by show Q (V.int ((a : Int) / 2 ^ ((b : Int)).toNat)) H; rw [shr_nat]; exact q⟩
theorem on_mul : OpR X (binaryOp .Mult) (rN (fun a b => a < 2 ^ 64) fun a b => .int ((a * b : Nat) : Int)) := nat1 op_mul (fun a b h => by unfold CMul; omega) fun a b h => by rw [Int.natCast_mul]
theorem on_lt : OpR X (compareOp .Lt) (rN0 fun a b => .bl (decide (a < b))) := nat0 op_lt fun a b => by simp
theorem on_le : OpR X (compareOp .LtE) (rN0 fun a b => .bl (decide (a ≤ b))) := nat0 op_le fun a b => by simp
theorem on_gt : OpR X (compareOp .Gt) (rN0 fun a b => .bl (decide (b < a))) := nat0 op_gt fun a b => by simp
theorem on_ge : OpR X (compareOp .GtE) (rN0 fun a b => .bl (decide (b ≤ a))) := nat0 op_ge fun a b => by simp
theorem on_eq : OpR X (compareOp .Eq) (rN0 fun a b => .bl (decide (a = b))) := conv op_eq fun x y H Q ⟨a, b, e1, e2, q⟩ => by
  subst e1 e2
  refine ⟨rfl, ?_⟩
  have e : (decide (V.int (a : Int) = V.int (b : Int))) = decide (a = b) := by rw [decide_eq_decide, V.int.injEq]; exact Int.ofNat_inj
  rw [e]; exact q
theorem on_ne : OpR X (compareOp .NotEq) (rN0 fun a b => .bl (!decide (a = b))) := conv op_ne fun x y H Q ⟨a, b, e1, e2, q⟩ => by
  subst e1 e2
  refine ⟨rfl, ?_⟩
  have e : (decide (V.int (a : Int) = V.int (b : Int))) = decide (a = b) := by rw [decide_eq_decide, V.int.injEq]; exact Int.ofNat_inj
  rw [e]; exact q
/-- xs[i], i a natural -/
def rIxN (K : PySem.W.Frag) : R2 := fun x y H Q => ∃ p xs i v, x = .ref p ∧ y = .int ((i : Nat) : Int) ∧ SqL K H p xs ∧ xs[i]? = some v ∧ Q v H
def rIxTN (K : PySem.W.Frag) : R2 := fun x y H Q => ∃ p xs i v, x = .ref p ∧ y = .int ((i : Nat) : Int) ∧ SqT K H p xs ∧ xs[i]? = some v ∧ Q v H
theorem atI_nat {xs : List V} {i : Nat} {v : V} (h : xs[i]? = some v) : atI xs (i : Int) = some v := by
  have hi := (List.getElem?_eq_some_iff.mp h).1
  unfold atI
  rw [ixN_nat hi]
  exact h
theorem on_ix {K : PySem.W.Frag} (hK : X.K = K := by rfl) : IxR X (rIxN K) := hK ▸ convIx ix_list fun x y H Q ⟨p, xs, i, v, e1, e2, hs, hv, q⟩ => ⟨p, xs, i, v, e1, e2, hs, atI_nat hv, q⟩
theorem on_ixT {K : PySem.W.Frag} (hK : X.K = K := by rfl) : IxR X (rIxTN K) := hK ▸ convIx ix_tup fun x y H Q ⟨p, xs, i, v, e1, e2, hs, hv, q⟩ => ⟨p, xs, i, v, e1, e2, hs, atI_nat hv, q⟩
theorem pt_truthK {K : PySem.W.Frag} {a : Expr} {ta : TE} (hK : X.K = K) (ha : PE X a ta) (he : ∀ whole, isTrue a X.env whole = (do let v ← whole; standAt a.pos; holding [v] (truthy v))) :
    PT X a (fun σ H Q => ta σ H fun x H' => ∃ k, TruV K x H' k ∧ Q k H') := hK ▸ pt_truth ha he
theorem pe_nat (k : Nat) {e : Expr} (h : PE X e (tC (.int (k : Int)))) : PE X e (tC (.int ((k : Nat) : Int))) := h
end
section
variable {K : PySem.W.Frag} {σ : L2.St} {H : Hp} {ta tb te : TE} {v : V}
theorem ev_n {g : Nat → Nat → V} {a b : Nat} (ha : Ev ta σ H (.int (a : Nat))) (hb : Ev tb σ H (.int (b : Nat))) : Ev (tOp (rN0 g) ta tb) σ H (g a b) := ev_op ha hb fun H1 _ _ q => ⟨a, b, rfl, rfl, q H1 (Ex.refl H1)⟩
theorem ev_nc {C : Nat → Nat → Prop} {g : Nat → Nat → V} {a b : Nat} (ha : Ev ta σ H (.int (a : Nat))) (hb : Ev tb σ H (.int (b : Nat))) (hc : C a b) : Ev (tOp (rN C g) ta tb) σ H (g a b) := ev_op ha hb fun H1 _ _ q => ⟨a, b, rfl, rfl, hc, q H1 (Ex.refl H1)⟩
theorem ev_ix {p : Addr} {xs : List V} {i : Nat} (hs : SqL K H p xs) (ha : Ev ta σ H (.ref p)) (hb : Ev tb σ H (.int (i : Nat))) (hv : xs[i]? = some v) : Ev (tOp (rIxN K) ta tb) σ H v := ev_op ha hb fun H1 e _ q => ⟨p, xs, i, v, rfl, rfl, ex_l e hs, hv, q H1 (Ex.refl H1)⟩
theorem ev_ixT {p : Addr} {xs : List V} {i : Nat} (hs : SqT K H p xs) (ha : Ev ta σ H (.ref p)) (hb : Ev tb σ H (.int (i : Nat))) (hv : xs[i]? = some v) : Ev (tOp (rIxTN K) ta tb) σ H v := ev_op ha hb fun H1 e _ q => ⟨p, xs, i, v, rfl, rfl, ex_t e hs, hv, q H1 (Ex.refl H1)⟩
theorem ev_v (i : Nat) (h : σ[i]? = some (some v) := by rfl) : Ev (tVar i) σ H v := ev_var h
/-- a list of naturals -/
def nv (ns : List Nat) : List V := ns.map fun n => V.int ((n : Nat) : Int)
def bv (bs : List Bool) : List V := bs.map V.bl
theorem nv_get {ns : List Nat} {i : Nat} {x : V} (h : (nv ns)[i]? = some x) : ∃ n, ns[i]? = some n ∧ x = .int ((n : Nat) : Int) := by
  unfold nv at h
  rw [List.getElem?_map] at h
  cases e : ns[i]? with
  | none => exact absurd (e ▸ h) (by simp)
  | some n => rw [e] at h; exact ⟨n, rfl, (Option.some.inj h).symm⟩
theorem nv_len {ns : List Nat} : (nv ns).length = ns.length := by simp [nv]
theorem bv_len {ns : List Bool} : (bv ns).length = ns.length := by simp [bv]
/-- a new list of the elements for which f, over xs -/
theorem given_map {f : Nat → Bool} {v : Nat → V} {n : Nat} : given n f v = ((List.range n).filter f).map v := rfl
/-- [e for x in xs if t], xs a list of naturals -/
theorem given_nats {ns : List Nat} {F : Nat → Bool} {G : Nat → V} {f : Nat → Bool} {v : Nat → V} (hf : ∀ i n, ns[i]? = some n → f i = F n) (hv : ∀ i n, ns[i]? = some n → v i = G n) : given ns.length f v = (ns.filter F).map G := by
  induction ns generalizing f v with
  | nil => rfl
  | cons a as ih =>
    have e : given (a :: as).length f v = (if f 0 then [v 0] else []) ++ given as.length (fun i => f (i + 1)) (fun i => v (i + 1)) := by
      unfold given
      rw [List.length_cons, List.range_succ_eq_map, List.filter_cons, List.filter_map]
      by_cases h : f 0 = true
      · rw [if_pos h, if_pos h]
        simp [Function.comp_def]
      · rw [if_neg h, if_neg h]
        simp [Function.comp_def]
    rw [e, ih (fun i n h => hf (i + 1) n h) (fun i n h => hv (i + 1) n h), hf 0 a rfl, hv 0 a rfl, List.filter_cons]
    by_cases h : F a = true
    · rw [if_pos h, if_pos h]; rfl
    · rw [if_neg h, if_neg h]; rfl
theorem el_nats {a : Addr} {ns : List Nat} {tl : TE} {j : Nat} {vs : List Nat} {t : TT} {σ : L2.St} (F : Nat → Bool) (G : Nat → V) (h : Ev tl σ H (.ref a)) (hx : SqL K H a (nv ns)) (hz : ns.length ≤ 40000) (hw : ∀ x, wipe ((wipe σ vs).set j (some x)) vs = wipe σ vs)
    (ht : ∀ (n : Nat) H1, Ex H H1 → n ∈ ns → EvT t ((wipe σ vs).set j (some (.int (n : Nat)))) H1 (F n)) (he : ∀ (n : Nat) H1, Ex H H1 → n ∈ ns → F n = true → Ev te ((wipe σ vs).set j (some (.int (n : Nat)))) H1 (G n)) :
    EvL (tLc (iList K tl) (gName j) t te vs) σ H ((ns.filter F).map G) := by
  have e := el_lcL (t := t) (te := te) (fun i => F (ns.getD i 0)) (fun i => G (ns.getD i 0)) h hx (by rw [nv_len]; exact hz) hw (fun i x H1 e1 hi => by
    obtain ⟨n, hn, rfl⟩ := nv_get hi
    have e2 : ns.getD i 0 = n := by simp [List.getD, hn]
    show EvT t _ H1 (F (ns.getD i 0))
    rw [e2]
    exact ht n H1 e1 (List.mem_of_getElem? hn)) (fun i x H1 e1 hi hf => by
    obtain ⟨n, hn, rfl⟩ := nv_get hi
    have e2 : ns.getD i 0 = n := by simp [List.getD, hn]
    show Ev te _ H1 (G (ns.getD i 0))
    rw [e2] at hf ⊢
    exact he n H1 e1 (List.mem_of_getElem? hn) hf)
  rw [nv_len, given_nats (F := F) (G := G) (fun i n hn => by simp [List.getD, hn]) (fun i n hn => by simp [List.getD, hn])] at e
  exact e
theorem el_natsN {ns : List Nat} {tl : TE} {j : Nat} {vs : List Nat} {t : TT} {σ : L2.St} (F : Nat → Bool) (G : Nat → V) (h : EvL tl σ H (nv ns)) (hz : ns.length ≤ 40000) (hw : ∀ x, wipe ((wipe σ vs).set j (some x)) vs = wipe σ vs)
    (ht : ∀ (n : Nat) H1, Ex H H1 → n ∈ ns → EvT t ((wipe σ vs).set j (some (.int (n : Nat)))) H1 (F n)) (he : ∀ (n : Nat) H1, Ex H H1 → n ∈ ns → F n = true → Ev te ((wipe σ vs).set j (some (.int (n : Nat)))) H1 (G n)) :
    EvL (tLc (iList K tl) (gName j) t te vs) σ H ((ns.filter F).map G) := by
  have e := el_lcNL (K := K) (t := t) (te := te) (fun i => F (ns.getD i 0)) (fun i => G (ns.getD i 0)) h (by rw [nv_len]; exact hz) hw (fun i x H1 e1 hi => by
    obtain ⟨n, hn, rfl⟩ := nv_get hi
    have e2 : ns.getD i 0 = n := by simp [List.getD, hn]
    show EvT t _ H1 (F (ns.getD i 0))
    rw [e2]
    exact ht n H1 e1 (List.mem_of_getElem? hn)) (fun i x H1 e1 hi hf => by
    obtain ⟨n, hn, rfl⟩ := nv_get hi
    have e2 : ns.getD i 0 = n := by simp [List.getD, hn]
    show Ev te _ H1 (G (ns.getD i 0))
    rw [e2] at hf ⊢
    exact he n H1 e1 (List.mem_of_getElem? hn) hf)
  rw [nv_len, given_nats (F := F) (G := G) (fun i n hn => by simp [List.getD, hn]) (fun i n hn => by simp [List.getD, hn])] at e
  exact e
theorem el_rng {ta : TA} {j : Nat} {vs : List Nat} {n : Nat} {t : TT} {σ : L2.St} (F : Nat → Bool) (G : Nat → V) (h : EvA ta σ H [.int (n : Nat)]) (hn : n ≤ 40000) (hw : ∀ x, wipe ((wipe σ vs).set j (some x)) vs = wipe σ vs)
    (ht : ∀ (i : Nat) H1, Ex H H1 → i < n → EvT t ((wipe σ vs).set j (some (.int (i : Int)))) H1 (F i)) (he : ∀ (i : Nat) H1, Ex H H1 → i < n → F i = true → Ev te ((wipe σ vs).set j (some (.int (i : Int)))) H1 (G i)) :
    EvL (tLc (iRng1 ta) (gName j) t te vs) σ H (((List.range n).filter F).map G) := el_lcR1 (n := (n : Int)) F G h (by omega) hw (fun i H1 e hi => ht i H1 e (by omega)) (fun i H1 e hi hf => he i H1 e (by omega) hf)
theorem s_augN {D : Ends} {i : Nat} {g : Nat → Nat → Nat} {a b : Nat} (h : Ev te σ H (.int (b : Nat))) (k : ∀ H1, Ex H H1 → D.nx (σ.set i (some (.int (g a b : Nat)))) H1) (hx : σ[i]? = some (some (.int (a : Nat))) := by rfl) : tAug i te (ipN g) D σ H :=
  ⟨.int (a : Nat), hx, h H (Ex.refl H) _ fun H1 e => ⟨a, b, rfl, rfl, k H1 e⟩⟩
theorem et_yes : EvT tYes σ H true := fun H1 _ _ q => q H1 (Ex.refl H1)
end
section
variable {K : PySem.W.Frag} {σ : L2.St} {H H0 : Hp} {ta tb te tl : TE} {v : V} {D : Ends} {tu tz : TS}
/-- for x in a tuple | list of naturals that is known from H0 on -/
theorem s_forTN {a : Addr} {ns : List Nat} {j : Nat} (h : Ev tl σ H (.ref a)) (hx : SqT K H0 a (nv ns)) (e0 : Ex H0 H) (Pv : Nat → L2.St → Hp → Prop) (h0 : ∀ H1, Ex H H1 → Pv 0 σ H1) (he : ∀ i σ' H', Pv i σ' H' → Ex H0 H')
    (hs : ∀ i (n : Nat) σ' H', ns[i]? = some n → Pv i σ' H' → tu { D with nx := Pv (i + 1), ct := Pv (i + 1), bk := D.nx } (σ'.set j (some (.int (n : Nat)))) H') (hd : ∀ σ' H', Pv ns.length σ' H' → D.nx σ' H') : tFor (iTup K tl) (gName j) tu D σ H :=
  s_forT (xs := nv ns) h (ex_t e0 hx) Pv h0 (fun i σ' H' _ p => ex_t (he i σ' H' p) hx) (fun i x σ' H' hi p => by
    obtain ⟨n, hn, rfl⟩ := nv_get hi
    exact hs i n σ' H' hn p) (by rw [nv_len]; exact hd)
theorem q_forTN {a : Addr} {ns : List Nat} {j : Nat} (h : Ev tl σ H (.ref a)) (hx : SqT K H0 a (nv ns)) (e0 : Ex H0 H) (Pv : Nat → L2.St → Hp → Prop) (h0 : ∀ H1, Ex H H1 → Pv 0 σ H1) (he : ∀ i σ' H', Pv i σ' H' → Ex H0 H')
    (hs : ∀ i (n : Nat) σ' H', ns[i]? = some n → Pv i σ' H' → tu { D with nx := Pv (i + 1), ct := Pv (i + 1), bk := tz D } (σ'.set j (some (.int (n : Nat)))) H') (hd : ∀ σ' H', Pv ns.length σ' H' → tz D σ' H') : tSeq (tFor (iTup K tl) (gName j) tu) tz D σ H :=
  s_forTN (D := { D with nx := tz D }) h hx e0 Pv h0 he hs hd
theorem s_forLN {a : Addr} {ns : List Nat} {j : Nat} (h : Ev tl σ H (.ref a)) (hx : SqL K H0 a (nv ns)) (e0 : Ex H0 H) (Pv : Nat → L2.St → Hp → Prop) (h0 : ∀ H1, Ex H H1 → Pv 0 σ H1) (he : ∀ i σ' H', Pv i σ' H' → Ex H0 H')
    (hs : ∀ i (n : Nat) σ' H', ns[i]? = some n → Pv i σ' H' → tu { D with nx := Pv (i + 1), ct := Pv (i + 1), bk := D.nx } (σ'.set j (some (.int (n : Nat)))) H') (hd : ∀ σ' H', Pv ns.length σ' H' → D.nx σ' H') : tFor (iList K tl) (gName j) tu D σ H :=
  s_forL (xs := nv ns) h (ex_l e0 hx) Pv h0 (fun i σ' H' _ p => ex_l (he i σ' H' p) hx) (fun i x σ' H' hi p => by
    obtain ⟨n, hn, rfl⟩ := nv_get hi
    exact hs i n σ' H' hn p) (by rw [nv_len]; exact hd)
theorem q_forLN {a : Addr} {ns : List Nat} {j : Nat} (h : Ev tl σ H (.ref a)) (hx : SqL K H0 a (nv ns)) (e0 : Ex H0 H) (Pv : Nat → L2.St → Hp → Prop) (h0 : ∀ H1, Ex H H1 → Pv 0 σ H1) (he : ∀ i σ' H', Pv i σ' H' → Ex H0 H')
    (hs : ∀ i (n : Nat) σ' H', ns[i]? = some n → Pv i σ' H' → tu { D with nx := Pv (i + 1), ct := Pv (i + 1), bk := tz D } (σ'.set j (some (.int (n : Nat)))) H') (hd : ∀ σ' H', Pv ns.length σ' H' → tz D σ' H') : tSeq (tFor (iList K tl) (gName j) tu) tz D σ H :=
  s_forLN (D := { D with nx := tz D }) h hx e0 Pv h0 he hs hd
/-- x = [..], the list new -/
theorem q_asgN {i : Nat} {xs : List V} (h : EvL te σ H xs) (k : ∀ p H1, H p = none → Ex H H1 → H1 p = some (.lst xs) → tz D (σ.set i (some (.ref p))) H1) : tSeq (tAsg te (gName i)) tz D σ H := q_asgL h k
theorem el_sortI {ns : List Nat} (h : EvL te σ H (nv ns)) : ∀ H1, Ex H H1 → ∀ Q : VK, (∀ (ms : List Nat) (p : Addr) (H2 : Hp), ms.Perm ns → ms.Pairwise (· ≤ ·) → H1 p = none → Ex H1 H2 → H2 p = some (.lst (nv ms)) → Q (.ref p) H2) → tCB (rSortedI K) (tCons te tNil) σ H1 Q := fun H1 e Q q => h H1 e _ fun p H2 hp e2 h2 => by
  refine ⟨p, ns.map fun n => ((n : Nat) : Int), rfl, sq_of (by rw [h2]; unfold nv; rw [List.map_map]; rfl), fun is l h3 h4 hl => ?_⟩
  obtain ⟨ms, rfl⟩ : ∃ ms : List Nat, is = ms.map fun n => ((n : Nat) : Int) := by
    refine ⟨is.map Int.toNat, ?_⟩
    rw [List.map_map]
    have : ∀ i ∈ is, ((fun n => ((n : Nat) : Int)) ∘ Int.toNat) i = id i := fun i hi => by
      obtain ⟨n, _, rfl⟩ := List.mem_map.mp (h3.mem_iff.mp hi)
      rfl
    rw [List.map_congr_left this, List.map_id]
  have h5 : ms.Perm ns := by
    have := h3.map Int.toNat
    simpa [List.map_map, Function.comp_def] using this
  have h6 : ms.Pairwise (· ≤ ·) := by
    rw [List.pairwise_map] at h4
    exact h4.imp fun h => by omega
  refine q ms l _ h5 h6 (fresh_back e2 hl) (e2.trans (Ex.new hl)) ?_
  rw [upd_same]; unfold nv; rw [List.map_map]; rfl
end
end W7
end
section
namespace W7
open PySem PySem.Spec PyProof.Rows L2 L3 Evl
section
variable {K : PySem.W.Frag} {σ : L2.St} {H H' : Hp} {ta tb te tl : TE} {v : V} {t : TT}
def RetU (xs : List V) (H : Hp) (Q : VK) : Prop := ∀ p H2, H p = none → Ex H H2 → H2 p = some (.tup xs) → Q (.ref p) H2
def SpU (sp : Sp) (vs : List V) (H : Hp) (xs : List V) : Prop := ∀ H1, Ex H H1 → ∀ Q : VK, (∀ p H2, H1 p = none → Ex H1 H2 → H2 p = some (.tup xs) → Q (.ref p) H2) → ∀ E : XK, sp vs H1 Q E
theorem eu_call {sp : Sp} {dvs vs xs : List V} {E : XK} {ta : TA} (h : EvA ta σ H vs) (hs : SpU sp (vs ++ dvs) H xs) : EvU (tCall sp dvs E ta) σ H xs := by
  intro H1 e Q q
  apply h H1 e
  intro H2 later
  apply hs H2 (e.trans later)
  intro p H3 new more there
  exact q p H3 (fresh_back later new) (later.trans more) there
/-- tuple(l) of a new list -/
def rTupOf (K : PySem.W.Frag) : List V → Hp → VK → Prop := fun xs H Q => ∃ p ys, xs = [.ref p] ∧ ((SqL K H p ys ∧ ∀ l, H l = none → Q (.ref l) (upd H l (.tup ys))) ∨ (SqT K H p ys ∧ Q (.ref p) H))
theorem eu_tupOf {xs : List V} (h : EvL te σ H xs) : EvU (tCB (rTupOf K) (tCons te tNil)) σ H xs := fun H1 e Q q =>
  h H1 e _ fun p H2 hp e2 h2 => ⟨p, xs, rfl, .inl ⟨sq_of h2, fun l hl => q l _ (fresh_back e2 hl) (e2.trans (Ex.new hl)) upd_same⟩⟩
/-! ### lists of lots -/
def TupV (H : Hp) (r : V) (ns : List Nat) : Prop := ∃ t, r = .ref t ∧ H t = some (.tup (nv ns))
theorem TupV.ex {r : V} {ns : List Nat} (h : TupV H r ns) (e : Ex H H') : TupV H' r ns := h.elim fun t z => ⟨t, z.1, e _ _ z.2⟩
def Lots (H : Hp) (rs : List V) (L : List (List Nat)) : Prop := rs.length = L.length ∧ ∀ (i : Nat) (r : V) (ns : List Nat), rs[i]? = some r → L[i]? = some ns → TupV H r ns
theorem Lots.ex {rs : List V} {L : List (List Nat)} (h : Lots H rs L) (e : Ex H H') : Lots H' rs L := ⟨h.1, fun i r ns a b => (h.2 i r ns a b).ex e⟩
def EvLots (te : TE) (σ : L2.St) (H : Hp) (L : List (List Nat)) : Prop := ∀ H1, Ex H H1 → ∀ Q : VK, (∀ p rs H2, H1 p = none → Ex H1 H2 → H2 p = some (.lst rs) → Lots H2 rs L → Q (.ref p) H2) → te σ H1 Q
def RetLots (L : List (List Nat)) (H : Hp) (Q : VK) : Prop := ∀ p rs H2, H p = none → Ex H H2 → H2 p = some (.lst rs) → Lots H2 rs L → Q (.ref p) H2
theorem nil_lots : Lots H [] [] := ⟨rfl, fun i r ns h => by simp at h⟩
theorem Lots.push {rs : List V} {L : List (List Nat)} {r : V} {ns : List Nat} (h : Lots H rs L) (h2 : TupV H r ns) : Lots H (rs ++ [r]) (L ++ [ns]) := by
  refine ⟨by simp [h.1], fun i r' ns' a b => ?_⟩
  by_cases hi : i < rs.length
  · rw [List.getElem?_append_left hi] at a
    rw [List.getElem?_append_left (by rw [← h.1]; exact hi)] at b
    exact h.2 i r' ns' a b
  · rw [List.getElem?_append_right (by omega)] at a
    rw [List.getElem?_append_right (by rw [← h.1]; omega)] at b
    rw [← h.1] at b
    cases hk : i - rs.length with
    | zero => rw [hk] at a b; cases a; cases b; exact h2
    | succ k => rw [hk] at a; simp at a
theorem nv_inj : ∀ {xs ys : List Nat}, nv xs = nv ys → xs = ys
  | [], [], _ => rfl
  | [], _ :: _, h => by simp [nv] at h
  | _ :: _, [], h => by simp [nv] at h
  | a :: as, b :: bs, h => by
    unfold nv at h
    rw [List.map_cons, List.map_cons, List.cons.injEq, V.int.injEq] at h
    have h1 : as = bs := nv_inj h.2
    have h2 : a = b := Int.ofNat_inj.mp h.1
    rw [h1, h2]
theorem TupV.det {r : V} {xs ys : List Nat} (a : TupV H r xs) (b : TupV H r ys) : xs = ys := by
  obtain ⟨t, rfl, h1⟩ := a
  obtain ⟨u, e, h2⟩ := b
  cases e
  rw [h1] at h2
  exact nv_inj (HO.tup.inj (Option.some.inj h2))
theorem Lots.mem {rs : List V} {L : List (List Nat)} (h : Lots H rs L) {r : V} (hr : r ∈ rs) : ∃ ns, ns ∈ L ∧ TupV H r ns := by
  obtain ⟨i, hi⟩ := List.getElem?_of_mem hr
  have hl : i < L.length := by rw [← h.1]; exact (List.getElem?_eq_some_iff.mp hi).1
  exact ⟨L[i], List.getElem_mem hl, h.2 i r _ hi (by simp [hl])⟩
/-- the lot behind a value -/
def lotOf (H : Hp) (r : V) : List Nat := match r with
  | .ref t => match H t with
    | some (.tup xs) => xs.map fun x => match x with | .int i => i.toNat | _ => 0
    | _ => []
  | _ => []
theorem TupV.lotOf {r : V} {ns : List Nat} (h : TupV H r ns) : lotOf H r = ns := by
  obtain ⟨t, rfl, h⟩ := h
  unfold W7.lotOf
  simp only [h]
  unfold nv
  rw [List.map_map]
  exact (List.map_congr_left (g := id) fun a _ => rfl).trans (List.map_id _)
theorem Lots.eq {rs : List V} {L : List (List Nat)} (h : Lots H rs L) : rs.map (lotOf H) = L := by
  apply List.ext_getElem?
  intro i
  rw [List.getElem?_map]
  cases e : rs[i]? with
  | none =>
    have := List.getElem?_eq_none_iff.mp e
    rw [h.1] at this
    rw [List.getElem?_eq_none_iff.mpr this]
    rfl
  | some r =>
    have hl : i < L.length := by rw [← h.1]; exact (List.getElem?_eq_some_iff.mp e).1
    rw [(List.getElem?_eq_some_iff.mpr ⟨hl, rfl⟩ : L[i]? = some L[i]), Option.map_some, (h.2 i r _ e (List.getElem?_eq_some_iff.mpr ⟨hl, rfl⟩)).lotOf]
theorem lots_of {rs : List V} (h : ∀ r ∈ rs, TupV H r (lotOf H r)) : Lots H rs (rs.map (lotOf H)) := ⟨by simp, fun i r ns a b => by
  rw [List.getElem?_map, a] at b
  cases b
  exact h r (List.mem_of_getElem? a)⟩
/-- [f(n) for n in ns], every element a new tuple of naturals -/
theorem el_lots {a : Addr} {ns : List Nat} {j : Nat} {vs : List Nat} {σ : L2.St} (T : Nat → List Nat) (h : Ev tl σ H (.ref a)) (hx : SqL K H a (nv ns)) (hz : ns.length ≤ 40000) (hw : ∀ x, wipe ((wipe σ vs).set j (some x)) vs = wipe σ vs)
    (he : ∀ (n : Nat) H1, Ex H H1 → n ∈ ns → EvU te ((wipe σ vs).set j (some (.int (n : Nat)))) H1 (nv (T n))) :
    EvLots (tLc (iList K tl) (gName j) tYes te vs) σ H (ns.map T) := fun H0 e Q q => h H0 e _ fun H1 e1 => ⟨a, rfl, ⟨nv ns, ex_l (e.trans e1) hx⟩, fun Dl hD =>
  lc_list (xs := nv ns) (fun i H' => H1 Dl = none ∧ Ex H1 H' ∧ ∃ rs, H' Dl = some (.lst rs) ∧ Lots H' rs ((ns.take i).map T)) ⟨hD, Ex.new hD, [], upd_same, nil_lots⟩ (fun i H' _ p => ex_l ((e.trans e1).trans p.2.1) hx) (fun i x H' hi ⟨p1, p2, rs, p3, p4⟩ => ⟨hw x, by
    obtain ⟨n, hn, rfl⟩ := nv_get hi
    show te ((wipe σ vs).set j (some (.int (n : Nat)))) H' _
    refine he n H1 (e.trans e1) (List.mem_of_getElem? hn) H' p2 _ fun b H4 hb e4 h4 => ⟨rs, e4 _ _ p3, ?_, p1, Ex.mut (p2.trans e4) p1, rs ++ [.ref b], upd_same, ?_⟩
    · have hl := (List.getElem?_eq_some_iff.mp hn).1
      have := p4.1
      rw [List.length_map, List.length_take] at this
      exact sz_lt (by omega)
    · rw [List.take_add_one, hn, Option.toList_some, List.map_append]
      have hbD : b ≠ Dl := fun e5 => by rw [e5] at hb; rw [p3] at hb; cases hb
      refine Lots.push ⟨p4.1, fun k r ms a1 a2 => ?_⟩ ⟨b, rfl, by rw [upd_ne hbD]; exact h4⟩
      obtain ⟨t, rfl, ht⟩ := (p4.2 k r ms a1 a2).ex e4
      refine ⟨t, rfl, ?_⟩
      rw [upd_ne (fun e5 => by rw [e5, e4 _ _ p3] at ht; cases ht)]
      exact ht⟩) (fun H' ⟨p1, p2, rs, p3, p4⟩ => q Dl rs H' (fresh_back e1 p1) (e1.trans p2) p3 (by rw [nv_len, List.take_length] at p4; exact p4))⟩
def lexLe (x y : List Nat) : Prop := (x.map fun n => ((n : Nat) : Int)) ≤ (y.map fun n => ((n : Nat) : Int))
/-- sorted(..) of a new list of lots -/
theorem el_sortLots {L : List (List Nat)} (h : EvLots te σ H L) : ∀ H1, Ex H H1 → ∀ Q : VK, (∀ M : List (List Nat), M.Perm L → M.Pairwise lexLe → RetLots M H1 Q) → tCB (rSortLots K) (tCons te tNil) σ H1 Q := fun H1 e Q q => h H1 e _ fun p rs H2 hp e2 h2 hL => by
  have ht : ∀ r ∈ rs, TupV H2 r (lotOf H2 r) := fun r hr => by
    obtain ⟨ns, _, h3⟩ := hL.mem hr
    rw [h3.lotOf]; exact h3
  refine ⟨p, rs, fun r => (lotOf H2 r).map fun n => ((n : Nat) : Int), rfl, sq_of h2, fun r hr => ?_, fun ys l h3 h4 hl => ?_⟩
  · obtain ⟨t, rfl, h3⟩ := ht r hr
    refine ⟨t, rfl, st_of ?_⟩
    rw [h3, List.map_map]; rfl
  · have hp2 : (ys.map (lotOf H2)).Perm L := by rw [← hL.eq]; exact h3.map _
    refine q _ hp2 ?_ l ys _ (fresh_back e2 hl) (e2.trans (Ex.new hl)) upd_same ?_
    · rw [List.pairwise_map]; exact h4
    · exact (lots_of fun r hr => ht r (h3.mem_iff.mp hr)).ex (Ex.new hl)
/-! ### min, max of a new list of naturals -/
theorem ev_minN {ns : List Nat} {m : Nat} (h : EvL te σ H (nv ns)) (hm : m ∈ ns) (hl : ∀ y ∈ ns, m ≤ y) : Ev (tCB (rMin K) (tCons te tNil)) σ H (.int (m : Nat)) := fun H1 e Q q => h H1 e _ fun p H2 hp e2 h2 => by
  refine ⟨p, ns.map fun n => ((n : Nat) : Int), rfl, sq_of (by rw [h2]; unfold nv; rw [List.map_map]; rfl), by rw [List.length_map]; exact List.length_pos_of_mem hm, fun k hk hk2 => ?_⟩
  obtain ⟨n, hn, rfl⟩ := List.mem_map.mp hk
  have h3 := hk2 _ (List.mem_map.mpr ⟨m, hm, rfl⟩)
  have h4 := hl n hn
  have : n = m := by omega
  rw [this]
  exact q H2 e2
theorem ev_maxN {ns : List Nat} {m : Nat} (h : EvL te σ H (nv ns)) (hm : m ∈ ns) (hl : ∀ y ∈ ns, y ≤ m) : Ev (tCB (rMax K) (tCons te tNil)) σ H (.int (m : Nat)) := fun H1 e Q q => h H1 e _ fun p H2 hp e2 h2 => by
  refine ⟨p, ns.map fun n => ((n : Nat) : Int), rfl, sq_of (by rw [h2]; unfold nv; rw [List.map_map]; rfl), by rw [List.length_map]; exact List.length_pos_of_mem hm, fun k hk hk2 => ?_⟩
  obtain ⟨n, hn, rfl⟩ := List.mem_map.mp hk
  have h3 := hk2 _ (List.mem_map.mpr ⟨m, hm, rfl⟩)
  have h4 := hl n hn
  have : n = m := by omega
  rw [this]
  exact q H2 e2
def mn : List Nat → Nat
  | [] => 0
  | a :: as => as.foldl min a
def mx : List Nat → Nat
  | [] => 0
  | a :: as => as.foldl max a
theorem foldmin : ∀ (as : List Nat) (a : Nat), (as.foldl min a = a ∨ as.foldl min a ∈ as) ∧ as.foldl min a ≤ a ∧ ∀ y ∈ as, as.foldl min a ≤ y
  | [], a => ⟨.inl rfl, Nat.le_refl _, fun y h => by cases h⟩
  | b :: bs, a => by
    obtain ⟨h1, h2, h3⟩ := foldmin bs (min a b)
    refine ⟨?_, by simp only [List.foldl_cons]; omega, fun y hy => ?_⟩
    · simp only [List.foldl_cons]
      rcases h1 with h1 | h1
      · rw [h1]
        rcases Nat.le_total a b with h | h
        · exact .inl (Nat.min_eq_left h)
        · exact .inr (by rw [Nat.min_eq_right h]; exact List.mem_cons_self)
      · exact .inr (List.mem_cons_of_mem _ h1)
    · simp only [List.foldl_cons]
      obtain rfl | hy := List.mem_cons.mp hy
      · omega
      · exact h3 y hy
theorem foldmax : ∀ (as : List Nat) (a : Nat), (as.foldl max a = a ∨ as.foldl max a ∈ as) ∧ a ≤ as.foldl max a ∧ ∀ y ∈ as, y ≤ as.foldl max a
  | [], a => ⟨.inl rfl, Nat.le_refl _, fun y h => by cases h⟩
  | b :: bs, a => by
    obtain ⟨h1, h2, h3⟩ := foldmax bs (max a b)
    refine ⟨?_, by simp only [List.foldl_cons]; omega, fun y hy => ?_⟩
    · simp only [List.foldl_cons]
      rcases h1 with h1 | h1
      · rw [h1]
        rcases Nat.le_total a b with h | h
        · exact .inr (by rw [Nat.max_eq_right h]; exact List.mem_cons_self)
        · exact .inl (Nat.max_eq_left h)
      · exact .inr (List.mem_cons_of_mem _ h1)
    · simp only [List.foldl_cons]
      obtain rfl | hy := List.mem_cons.mp hy
      · omega
      · exact h3 y hy
theorem mn_ok {ns : List Nat} (h : ns ≠ []) : mn ns ∈ ns ∧ ∀ y ∈ ns, mn ns ≤ y := by
  cases ns with
  | nil => exact absurd rfl h
  | cons a as =>
    obtain ⟨h1, h2, h3⟩ := foldmin as a
    refine ⟨?_, fun y hy => ?_⟩
    · rcases h1 with h1 | h1
      · show as.foldl min a ∈ _; rw [h1]; exact List.mem_cons_self
      · exact List.mem_cons_of_mem _ h1
    · obtain rfl | hy := List.mem_cons.mp hy
      · exact h2
      · exact h3 y hy
theorem mx_ok {ns : List Nat} (h : ns ≠ []) : mx ns ∈ ns ∧ ∀ y ∈ ns, y ≤ mx ns := by
  cases ns with
  | nil => exact absurd rfl h
  | cons a as =>
    obtain ⟨h1, h2, h3⟩ := foldmax as a
    refine ⟨?_, fun y hy => ?_⟩
    · rcases h1 with h1 | h1
      · show as.foldl max a ∈ _; rw [h1]; exact List.mem_cons_self
      · exact List.mem_cons_of_mem _ h1
    · obtain rfl | hy := List.mem_cons.mp hy
      · exact h2
      · exact h3 y hy
end
end W7
end
section
namespace W7
open PySem PySem.Spec PyProof.Rows L2 L3 Evl
open C8 (Cal pe_c Mak pe_mk Met pe_mt pe_mt0)
section
variable {P : Program} {w : World} {K : PySem.W.Frag} {mg : Str → Option Value} {base : Heap} {f : Addr} {fd : FuncData}
/-- the number of things of a mask, up to twelve -/
def bitsF : Nat → Nat → Nat
  | 0, _ => 12
  | f + 1, n => if n = 0 then 12 - (f + 1) else bitsF f (n &&& (n - 1))
abbrev bits (n : Nat) : Nat := bitsF 12 n
theorem bitsF_step {i m : Nat} (hi : i < 12) : bitsF (12 - i) m = if m = 0 then i else bitsF (12 - (i + 1)) (m &&& (m - 1)) := by
  have : 12 - i = (12 - (i + 1)) + 1 := by omega
  rw [this, bitsF]
  have : 12 - (12 - (i + 1) + 1) = i := by omega
  rw [this]
def spBits : Sp := fun vs H Q _ => ∃ n : Nat, vs = [.int n] ∧ RetV (.int (bits n : Nat)) H Q
theorem sc_law_bits : FnScope ["_law_number_here", "_law_count"] ["_law_number_here"] (defScope (top 51)) := ⟨rfl, rfl, rfl, by decide +kernel, rfl, by decide +kernel, by decide +kernel⟩
theorem c_law_bits (F : FnP K "_law_bits" (top 51) f fd) (g : mg "_law_bits" = some (.ref f)) (B : Bi mg) : Cal P w K mg base 1 "_law_bits" spBits [] := by
  refine mkCal F g sc_law_bits (fun _ _ _ _ _ _ us hl => match us, hl with | [_], _ => rfl) (fun vs H Q E h => ?_) (fun cdv A outer s H vs Q E hr h => ?_)
  · obtain ⟨n, rfl, _⟩ := h
    rfl
  · obtain ⟨n, rfl, q⟩ := h
    refine ⟨_, (pss_cons (ps_for PassesOwn.never rfl (pi_range1 rfl B.range (pa_cons (pe_nat 12 pe_int) pa_nil)) (pg_name (i := 1) sc_law_bits.nd rfl (by first | exact Or.inl rfl | exact Or.inr rfl)) (pss_cons (ps_if (pt_cmpR on_eq (pv 0) (pe_nat 0 pe_int) (nomark _)) (pss_one (ps_ret (pv 1))) pss_nil) (pss_one (ps_set (i := 0) sc_law_bits.nd rfl (by first | exact Or.inl rfl | exact Or.inr rfl) (pe_op on_and (pv 0) (pe_op on_sub (pv 0) (pe_nat 1 pe_int))))))) (pss_one (ps_ret (pe_nat 12 pe_int)))), ?_⟩
    refine q_forR1 (n := 12) (ea_cons ev_c ea_nil) (by decide) (fun i σ H' => Ex H H' ∧ ∃ (m : Nat) (v : Option V), σ = [some (.int m), v] ∧ bitsF (12 - i) m = bits n) (fun H1 e => ⟨e, n, none, rfl, rfl⟩) ?_ ?_
    · rintro i σ H' hi ⟨e0, m, v, rfl, e⟩
      rw [bitsF_step (by omega)] at e
      refine q_when (et_test (ev_n (ev_v 0) ev_c)) (fun hb H1 e1 => ?_) (fun hb H1 e1 => ?_)
      · have hm : m = 0 := of_decide_eq_true hb
        rw [if_pos hm] at e
        refine s_ret (ev_v 1) fun H2 e2 => ?_
        show Q (.int (i : Nat)) H2
        rw [e]
        exact q H2 (e0.trans (e1.trans e2))
      · have hm : m ≠ 0 := of_decide_eq_false hb
        rw [if_neg hm] at e
        refine s_asg (ev_n (ev_v 0) (ev_nc (ev_v 0) ev_c (by omega))) (fun H2 e2 => ⟨e0.trans (e1.trans e2), _, _, rfl, e⟩)
    · rintro σ H' ⟨e0, m, v, rfl, e⟩
      refine s_ret ev_c fun H2 e2 => ?_
      show Q (.int (12 : Nat)) H2
      have : 12 = bits n := e
      rw [this]
      exact q H2 (e0.trans e2)
/-- the things of a mask -/
def lotF (n : Nat) : List Nat := (List.range 12).filter fun x => n.testBit x
theorem shr_and (n x : Nat) : (n >>> x) &&& 1 = (n.testBit x).toNat := by
  rw [Nat.testBit, Nat.and_one_is_mod, Nat.and_comm, Nat.and_one_is_mod]
  rcases Nat.mod_two_eq_zero_or_one (n >>> x) with h | h <;> rw [h] <;> rfl
def spLot : Sp := fun vs H Q _ => ∃ n : Nat, vs = [.int n] ∧ RetU (nv (lotF n)) H Q
theorem sc_law_lot : FnScope ["_law_number_here", "_law_thing"] ["_law_number_here"] (defScope (top 52)) := ⟨rfl, rfl, rfl, by decide +kernel, rfl, by decide +kernel, by decide +kernel⟩
theorem c_law_lot (F : FnP K "_law_lot" (top 52) f fd) (g : mg "_law_lot" = some (.ref f)) (B : Bi mg) : Cal P w K mg base 1 "_law_lot" spLot [] := by
  refine mkCal F g sc_law_lot (fun _ _ _ _ _ _ us hl => match us, hl with | [_], _ => rfl) (fun vs H Q E h => ?_) (fun cdv A outer s H vs Q E hr h => ?_)
  · obtain ⟨n, rfl, _⟩ := h
    rfl
  · obtain ⟨n, rfl, q⟩ := h
    refine ⟨_, (pss_one (ps_ret (pe_callTy call_tuple_of (by rfl) B.tuple (by decide +kernel) (pa_cons (pe_lc (own := [("_law_thing", 1)]) (g := gName 1) (by rfl) sc_law_lot.nd (pi_range1 rfl B.range (pa_cons (pe_nat 12 pe_int) pa_nil)) (blkOk_by (own := [("_law_thing", 1)]) (N := ["_law_number_here", "_law_thing"]) (sc := defScope (top 52)) (by decide +kernel)) (fun _ _ _ _ _ => (pg_name (i := 1) sc_law_lot.nd rfl (by first | exact Or.inl rfl | exact Or.inr rfl))) (fun _ _ _ _ _ => (pts_one (pt_cmpR on_eq (pe_op on_and (pe_op on_shr (pv 0) (pv 1)) (pe_nat 1 pe_int)) (pe_nat 1 pe_int) (nomark _)))) (fun _ _ _ _ _ => (pv 1))) pa_nil)))), ?_⟩
    refine s_retU (eu_tupOf (el_rng (n := 12) (fun i => decide ((n >>> i) &&& 1 = 1)) (fun i => .int (i : Nat)) (ea_cons ev_c ea_nil) (by decide) (fun _ => rfl) (fun i H1 e hi => et_test (ev_n (ev_n (ev_n (ev_v 0) (ev_v 1)) ev_c) ev_c)) (fun i H1 e hi hf => ev_v 1))) fun p H1 hp e h1 => q p H1 hp e ?_
    rw [h1]
    unfold nv lotF
    congr 4
    funext x
    rw [shr_and]
    cases n.testBit x <;> rfl
def numF (ns : List Nat) : Nat := ns.foldl (fun a x => a + (1 <<< x)) 0
def spNum : Sp := fun vs H Q _ => ∃ (p : Addr) (ns : List Nat), vs = [.ref p] ∧ SqT K H p (nv ns) ∧ (∀ n ∈ ns, n < 64) ∧ RetV (.int (numF ns : Nat)) H Q
theorem sc_law_number : FnScope ["_law_lot_here", "_law_number_here", "_law_thing"] ["_law_lot_here"] (defScope (top 53)) := ⟨rfl, rfl, rfl, by decide +kernel, rfl, by decide +kernel, by decide +kernel⟩
theorem c_law_number (F : FnP K "_law_number" (top 53) f fd) (g : mg "_law_number" = some (.ref f)) (B : Bi mg) : Cal P w K mg base 1 "_law_number" (spNum (K := K)) [] := by
  refine mkCal F g sc_law_number (fun _ _ _ _ _ _ us hl => match us, hl with | [_], _ => rfl) (fun vs H Q E h => ?_) (fun cdv A outer s H vs Q E hr h => ?_)
  · obtain ⟨p, ns, rfl, _⟩ := h
    rfl
  · obtain ⟨p, ns, rfl, hs, hb, q⟩ := h
    refine ⟨_, (pss_cons (ps_set (i := 1) sc_law_number.nd rfl (by first | exact Or.inl rfl | exact Or.inr rfl) (pe_nat 0 pe_int)) (pss_cons (ps_for PassesOwn.never rfl (pi_tup (pv 0)) (pg_name (i := 2) sc_law_number.nd rfl (by first | exact Or.inl rfl | exact Or.inr rfl)) (pss_one (ps_aug (i := 1) sc_law_number.nd rfl (by first | exact Or.inl rfl | exact Or.inr rfl) (pe_op on_shl (pe_nat 1 pe_int) (pv 2)) ip_addN))) (pss_one (ps_ret (pv 1))))), ?_⟩
    refine q_asg ev_c fun H1 e1 => ?_
    refine q_forTN (ev_v 0) hs e1 (fun i σ H' => Ex H H' ∧ ∃ v, σ = [some (.ref p), some (.int ((ns.take i).foldl (fun a x => a + (1 <<< x)) 0 : Nat)), v]) (fun H2 e2 => ⟨e1.trans e2, _, rfl⟩) (fun i σ H' h => h.1) ?_ ?_
    · rintro i n σ H' hn ⟨e0, v, rfl⟩
      refine s_augN (ev_nc ev_c (ev_v 2) ⟨by decide, hb n (List.mem_of_getElem? hn)⟩) fun H2 e2 => ⟨e0.trans e2, some (.int (n : Nat)), ?_⟩
      rw [List.take_add_one, hn, Option.toList_some, List.foldl_append]
      rfl
    · rintro σ H' ⟨e0, v, rfl⟩
      refine s_ret (ev_v 1) fun H2 e2 => ?_
      rw [List.take_length]
      exact q H2 (e0.trans e2)
end
end W7
end
section
namespace W7
open PySem PySem.Spec PyProof.Rows L2 L3 Evl
open C8 (Cal pe_c Mak pe_mk Met pe_mt pe_mt0)
section
variable {K : PySem.W.Frag} {σ : L2.St} {H H' : Hp} {ta tb tc te tl : TE} {v : V} {t : TT}
theorem ev_chainN {g g' : Nat → Nat → Bool} {a b c : Nat} (ha : Ev ta σ H (.int (a : Nat))) (hb : Ev tb σ H (.int (b : Nat))) (hc : Ev tc σ H (.int (c : Nat))) :
    Ev (tChain (rN0 fun a b => .bl (g a b)) (rN0 fun a b => .bl (g' a b)) ta tb tc) σ H (.bl (g a b && g' b c)) := fun H1 e Q q => ha H1 e _ fun H2 e2 => hb H2 (e.trans e2) _ fun H3 e3 => ⟨a, b, rfl, rfl, g a b, rfl, by
  cases h : g a b with
  | true => exact hc H3 ((e.trans e2).trans e3) _ fun H4 e4 => ⟨b, c, rfl, rfl, by have := q H4 ((e2.trans e3).trans e4); rw [h] at this; exact this⟩
  | false => have := q H3 (e2.trans e3); rw [h] at this; exact this⟩
end
section
variable {P : Program} {w : World} {K : PySem.W.Frag} {mg : Str → Option Value} {base : Heap} {f : Addr} {fd : FuncData}
def spLots (K : PySem.W.Frag) : Sp := fun vs H Q _ => ∃ (p : Addr) (ms : List Nat), vs = [.ref p] ∧ SqL K H p (nv ms) ∧ ms.length ≤ 64 ∧ ∀ L : List (List Nat), L.Perm (ms.map lotF) → L.Pairwise lexLe → RetLots L H Q
theorem sc_law_lots : FnScope ["_law_masks", "_law_number_here"] ["_law_masks"] (defScope (top 54)) := ⟨rfl, rfl, rfl, by decide +kernel, rfl, by decide +kernel, by decide +kernel⟩
theorem c_law_lots (F : FnP K "_law_lots" (top 54) f fd) (g : mg "_law_lots" = some (.ref f)) (B : Bi mg) (c_law_lot : Cal P w K mg base 1 "_law_lot" spLot []) : Cal P w K mg base 2 "_law_lots" (spLots K) [] := by
  refine mkCal F g sc_law_lots (fun _ _ _ _ _ _ us hl => match us, hl with | [_], _ => rfl) (fun vs H Q E h => ?_) (fun cdv A outer s H vs Q E hr h => ?_)
  · obtain ⟨p, ms, rfl, _⟩ := h
    rfl
  · obtain ⟨p, ms, rfl, hs, hz, q⟩ := h
    refine ⟨_, (pss_one (ps_ret (pe_callB (cr_sortLots hr.units) (by rfl) B.sorted (by decide +kernel) (pa_cons (pe_lc (own := [("_law_number_here", 1)]) (g := gName 1) (by rfl) sc_law_lots.nd (pi_list (pv 0)) (blkOk_by (own := [("_law_number_here", 1)]) (N := ["_law_masks", "_law_number_here"]) (sc := defScope (top 54)) (by decide +kernel)) (fun _ _ _ _ _ => (pg_name (i := 1) sc_law_lots.nd rfl (by first | exact Or.inl rfl | exact Or.inr rfl))) (fun _ _ _ _ _ => pts_nil) (fun _ _ _ _ _ => (pe_c c_law_lot hr (by decide) rfl (pa_cons (pv 1) pa_nil)))) pa_nil)))), ?_⟩
    refine el_sortLots (el_lots lotF (ev_v 0) hs (by omega) (fun _ => rfl) (fun n H1 e hn => eu_call (ea_cons (ev_v 1) ea_nil) (fun H2 e2 Q2 q2 E2 => ⟨n, rfl, q2⟩))) H (Ex.refl H) _ (fun M h1 h2 => q M h1 h2)
def insF (size : Nat) (ms : List Nat) : List Bool := (List.range (1 <<< size)).map fun n => decide (n ∈ ms)
def spIns (K : PySem.W.Frag) : Sp := fun vs H Q _ => ∃ (size : Nat) (p : Addr) (ms : List Nat), vs = [.int size, .ref p] ∧ SqL K H p (nv ms) ∧ size ≤ 6 ∧ (∀ m ∈ ms, m < 1 <<< size) ∧ RetL (bv (insF size ms)) H Q
theorem pow64 {n : Nat} (h : n ≤ 6) : 1 <<< n ≤ 64 := by
  match n, h with
  | 0, _ | 1, _ | 2, _ | 3, _ | 4, _ | 5, _ | 6, _ => decide
  | n + 7, h => omega
theorem map_set {n m : Nat} {f g : Nat → Bool} (hm : m < n) (h : ∀ i, g i = (if i = m then true else f i)) : (bv ((List.range n).map f)).set m (.bl true) = bv ((List.range n).map g) := by
  unfold bv
  simp only [List.map_map]
  apply List.ext_getElem?
  intro i
  rw [List.getElem?_set, List.getElem?_map, List.getElem?_map]
  simp only [List.length_range, List.length_map]
  by_cases hi : m = i
  · subst hi
    rw [if_pos rfl, if_pos hm, List.getElem?_range hm]
    simp [h]
  · rw [if_neg hi]
    by_cases h2 : i < n
    · rw [List.getElem?_range h2]
      have : ¬ i = m := fun e => hi e.symm
      simp [h, this]
    · rw [List.getElem?_eq_none (by simp; omega)]
      rfl
theorem sc_law_inside : FnScope ["_law_size", "_law_masks", "_law_row", "_law_number_here"] ["_law_size", "_law_masks"] (defScope (top 55)) := ⟨rfl, rfl, rfl, by decide +kernel, rfl, by decide +kernel, by decide +kernel⟩
theorem c_law_inside (F : FnP K "_law_inside" (top 55) f fd) (g : mg "_law_inside" = some (.ref f)) (B : Bi mg) : Cal P w K mg base 1 "_law_inside" (spIns K) [] := by
  refine mkCal F g sc_law_inside (fun _ _ _ _ _ _ us hl => match us, hl with | [_, _], _ => rfl) (fun vs H Q E h => ?_) (fun cdv A outer s H vs Q E hr h => ?_)
  · obtain ⟨size, p, ms, rfl, _⟩ := h
    rfl
  · obtain ⟨size, p, ms, rfl, hs, hz, hb, q⟩ := h
    have h64 := pow64 hz
    refine ⟨_, (pss_cons (ps_setLc (i := 2) (own := [("_law_number_here", 3)]) (g := gName 3) (by rfl) sc_law_inside.nd rfl rfl (sw_true rfl rfl rfl (by decide +kernel)) (pi_range1 rfl B.range (pa_cons (pe_op on_shl (pe_nat 1 pe_int) (pv 0)) pa_nil)) (blkOk_by (own := [("_law_number_here", 3)]) (N := ["_law_size", "_law_masks", "_law_row", "_law_number_here"]) (sc := defScope (top 55)) (by decide +kernel)) (fun _ _ _ _ _ => (pg_name (i := 3) sc_law_inside.nd rfl (by first | exact Or.inl rfl | exact Or.inr rfl))) (fun _ _ _ _ _ => pts_nil) (fun _ _ _ _ _ => pe_bl)) (pss_cons (ps_for PassesOwn.never rfl (pi_list (pv 1)) (pg_name (i := 3) sc_law_inside.nd rfl (by first | exact Or.inl rfl | exact Or.inr rfl)) (pss_one (ps_asg pe_bl (pg_sub (pv 2) (pv 3) set_list)))) (pss_one (ps_ret (pv 2))))), ?_⟩
    refine q_asgL (el_rng (n := 1 <<< size) (fun _ => true) (fun _ => .bl false) (ea_cons (ev_nc ev_c (ev_v 0) ⟨by decide, by omega⟩) ea_nil) (by omega) (fun _ => rfl) (fun _ _ _ _ => et_yes) (fun _ _ _ _ _ => ev_c)) fun r H1 hr1 e1 h1 => ?_
    refine q_forLN (ev_v 1) hs e1 (fun i σ H' => Ex H H' ∧ H' r = some (.lst (bv ((List.range (1 <<< size)).map fun n => decide (n ∈ ms.take i)))) ∧ ∃ v, σ = [some (.int size), some (.ref p), some (.ref r), v]) (fun H2 e2 => ⟨e1.trans e2, ?_, _, rfl⟩) (fun i σ H' h => h.1) ?_ ?_
    · rw [e2 _ _ h1]
      unfold bv
      rw [List.map_map, List.filter_eq_self.mpr (fun _ _ => rfl)]
      refine congrArg some (congrArg HO.lst (List.map_congr_left fun a _ => ?_))
      simp
    · rintro i n σ H' hn ⟨e0, h2, v, rfl⟩
      have hn1 := hb n (List.mem_of_getElem? hn)
      refine s_setL h2 ev_c (ev_v 2) (ev_v 3) (by rw [bv_len, List.length_map, List.length_range]; exact hn1) fun H3 e3 => ⟨Ex.mut (e0.trans e3) hr1, ?_, some (.int n), rfl⟩
      rw [upd_same]
      congr 2
      refine map_set hn1 fun k => ?_
      rw [List.take_add_one, hn]
      by_cases hk : k = n
      · simp [hk]
      · simp [hk]
    · rintro σ H' ⟨e0, h2, v, rfl⟩
      rw [List.take_length] at h2
      refine s_ret (ev_v 2) fun H3 e3 => q r H3 hr1 (e0.trans e3) (e3 _ _ h2)
def listF (bs : List Bool) : List Nat := (List.range bs.length).filter fun i => bs.getD i false
def spListed (K : PySem.W.Frag) : Sp := fun vs H Q _ => ∃ (p : Addr) (bs : List Bool), vs = [.ref p] ∧ SqL K H p (bv bs) ∧ bs.length ≤ 64 ∧ RetL (nv (listF bs)) H Q
theorem bv_get {bs : List Bool} {i : Nat} (h : i < bs.length) : (bv bs)[i]? = some (.bl (bs.getD i false)) := by
  unfold bv
  rw [List.getElem?_map, List.getD, (List.getElem?_eq_some_iff.mpr ⟨h, rfl⟩ : bs[i]? = some bs[i])]
  rfl
theorem sc_law_listed : FnScope ["_law_row", "_law_number_here"] ["_law_row"] (defScope (top 56)) := ⟨rfl, rfl, rfl, by decide +kernel, rfl, by decide +kernel, by decide +kernel⟩
theorem c_law_listed (F : FnP K "_law_listed" (top 56) f fd) (g : mg "_law_listed" = some (.ref f)) (B : Bi mg) : Cal P w K mg base 1 "_law_listed" (spListed K) [] := by
  refine mkCal F g sc_law_listed (fun _ _ _ _ _ _ us hl => match us, hl with | [_], _ => rfl) (fun vs H Q E h => ?_) (fun cdv A outer s H vs Q E hr h => ?_)
  · obtain ⟨p, bs, rfl, _⟩ := h
    rfl
  · obtain ⟨p, bs, rfl, hs, hz, q⟩ := h
    refine ⟨_, (pss_one (ps_ret (pe_lc (own := [("_law_number_here", 1)]) (g := gName 1) (by rfl) sc_law_listed.nd (pi_range1 rfl B.range (pa_cons (pe_callB call_len_seq (by rfl) B.len (by decide +kernel) (pa_cons (pv 0) pa_nil)) pa_nil)) (blkOk_by (own := [("_law_number_here", 1)]) (N := ["_law_row", "_law_number_here"]) (sc := defScope (top 56)) (by decide +kernel)) (fun _ _ _ _ _ => (pg_name (i := 1) sc_law_listed.nd rfl (by first | exact Or.inl rfl | exact Or.inr rfl))) (fun _ _ _ _ _ => (pts_one (pt_val (pe_ix (on_ix (K := K)) (pv 0) (pv 1) (fun _ _ => rfl))))) (fun _ _ _ _ _ => (pv 1))))), ?_⟩
    refine s_retL (el_rng (n := bs.length) (fun i => bs.getD i false) (fun i => .int (i : Nat)) (ea_cons (ev_is (ev_len (ev_v 0) hs) (by rw [bv_len])) ea_nil) (by omega) (fun _ => rfl) (fun i H1 e hi => et_B (ev_ix (ex_l e hs) (ev_v 0) (ev_v 1) (bv_get hi))) (fun i H1 e hi _ => ev_v 1)) q
def sizedF (size low top : Nat) : List Nat := (List.range (1 <<< size)).filter fun n => decide (low ≤ bits n) && decide (bits n ≤ top)
def spSized : Sp := fun vs H Q _ => ∃ (size low top : Nat), vs = [.int size, .int low, .int top] ∧ size ≤ 6 ∧ RetL (nv (sizedF size low top)) H Q
theorem sc_law_sized : FnScope ["_law_size", "_law_low", "_law_top", "_law_row", "_law_number_here"] ["_law_size", "_law_low", "_law_top"] (defScope (top 57)) := ⟨rfl, rfl, rfl, by decide +kernel, rfl, by decide +kernel, by decide +kernel⟩
theorem c_law_sized (F : FnP K "_law_sized" (top 57) f fd) (g : mg "_law_sized" = some (.ref f)) (B : Bi mg) (c_law_bits : Cal P w K mg base 1 "_law_bits" spBits []) (c_law_listed : Cal P w K mg base 1 "_law_listed" (spListed K) []) : Cal P w K mg base 2 "_law_sized" spSized [] := by
  refine mkCal F g sc_law_sized (fun _ _ _ _ _ _ us hl => match us, hl with | [_, _, _], _ => rfl) (fun vs H Q E h => ?_) (fun cdv A outer s H vs Q E hr h => ?_)
  · obtain ⟨size, low, tp, rfl, _⟩ := h
    rfl
  · obtain ⟨size, low, tp, rfl, hz, q⟩ := h
    have h64 := pow64 hz
    refine ⟨_, (pss_cons (ps_setLc (i := 3) (own := [("_law_number_here", 4)]) (g := gName 4) (by rfl) sc_law_sized.nd rfl rfl (sw_true rfl rfl rfl (by decide +kernel)) (pi_range1 rfl B.range (pa_cons (pe_op on_shl (pe_nat 1 pe_int) (pv 0)) pa_nil)) (blkOk_by (own := [("_law_number_here", 4)]) (N := ["_law_size", "_law_low", "_law_top", "_law_row", "_law_number_here"]) (sc := defScope (top 57)) (by decide +kernel)) (fun _ _ _ _ _ => (pg_name (i := 4) sc_law_sized.nd rfl (by first | exact Or.inl rfl | exact Or.inr rfl))) (fun _ _ _ _ _ => pts_nil) (fun _ _ _ _ _ => (pe_chain on_le on_le (pv 1) (pe_c c_law_bits hr (by decide) rfl (pa_cons (pv 4) pa_nil)) (pv 2)))) (pss_one (ps_ret (pe_c c_law_listed hr (by decide) rfl (pa_cons (pv 3) pa_nil))))), ?_⟩
    refine q_asgL (el_rng (n := 1 <<< size) (fun _ => true) (fun n => .bl (decide (low ≤ bits n) && decide (bits n ≤ tp))) (ea_cons (ev_nc ev_c (ev_v 0) ⟨by decide, by omega⟩) ea_nil) (by omega) (fun _ => rfl) (fun _ _ _ _ => et_yes) (fun n H1 e hn _ => ev_chainN (g := fun a b => decide (a ≤ b)) (g' := fun a b => decide (a ≤ b)) (ev_v 1) (ev_call (ea_cons (ev_v 4) ea_nil) (fun H2 e2 Q2 q2 E2 => ⟨n, rfl, q2⟩)) (ev_v 2))) fun r H1 hr1 e1 h1 => ?_
    refine s_retL (el_call (ea_cons (ev_v 3) ea_nil) (fun H2 e2 Q2 q2 E2 => ⟨r, (List.range (1 <<< size)).map fun n => decide (low ≤ bits n) && decide (bits n ≤ tp), rfl, sq_of ?_, by simp; omega, q2⟩)) fun p H2 hp e2 h2 => q p H2 (fresh_back e1 hp) (e1.trans e2) ?_
    · rw [e2 _ _ h1]
      unfold bv
      rw [List.map_map, List.filter_eq_self.mpr (fun _ _ => rfl)]
      rfl
    · rw [h2]
      unfold listF sizedF
      congr 3
      simp only [List.length_range, List.length_map]
      refine List.filter_congr fun n hn => ?_
      rw [List.getD, List.getElem?_map, List.getElem?_range (List.mem_range.mp hn)]
      rfl
end
end W7
end
section
namespace W7
open PySem PySem.Spec PyProof.Rows L2 L3 Evl
open C8 (Cal pe_c Mak pe_mk Met pe_mt pe_mt0)
section
variable {P : Program} {w : World} {K : PySem.W.Frag} {mg : Str → Option Value} {base : Heap} {f : Addr} {fd : FuncData}
/-- turned: any ascending row of the same masks -/
def spTurned (K : PySem.W.Frag) : Sp := fun vs H Q _ => ∃ (p : Addr) (ms : List Nat) (t : Nat), vs = [.ref p, .int t] ∧ SqL K H p (nv ms) ∧ ms.length ≤ 64 ∧ ∀ M : List Nat, M.Perm (ms.map fun m => m ^^^ t) → M.Pairwise (· ≤ ·) → RetL (nv M) H Q
theorem map_all {α β : Type} {f : α → β} {ns : List α} : (ns.filter fun _ => true).map f = ns.map f := by rw [List.filter_eq_self.mpr (fun _ _ => rfl)]
theorem sc_law_turned : FnScope ["_law_masks", "_law_lot_here", "_law_number_here"] ["_law_masks", "_law_lot_here"] (defScope (top 60)) := ⟨rfl, rfl, rfl, by decide +kernel, rfl, by decide +kernel, by decide +kernel⟩
theorem c_law_turned (F : FnP K "_law_turned" (top 60) f fd) (g : mg "_law_turned" = some (.ref f)) (B : Bi mg) : Cal P w K mg base 1 "_law_turned" (spTurned K) [] := by
  refine mkCal F g sc_law_turned (fun _ _ _ _ _ _ us hl => match us, hl with | [_, _], _ => rfl) (fun vs H Q E h => ?_) (fun cdv A outer s H vs Q E hr h => ?_)
  · obtain ⟨p, ms, t, rfl, _⟩ := h
    rfl
  · obtain ⟨p, ms, t, rfl, hs, hz, q⟩ := h
    refine ⟨_, (pss_one (ps_ret (pe_callB cr_sortedI (by rfl) B.sorted (by decide +kernel) (pa_cons (pe_lc (own := [("_law_number_here", 2)]) (g := gName 2) (by rfl) sc_law_turned.nd (pi_list (pv 0)) (blkOk_by (own := [("_law_number_here", 2)]) (N := ["_law_masks", "_law_lot_here", "_law_number_here"]) (sc := defScope (top 60)) (by decide +kernel)) (fun _ _ _ _ _ => (pg_name (i := 2) sc_law_turned.nd rfl (by first | exact Or.inl rfl | exact Or.inr rfl))) (fun _ _ _ _ _ => pts_nil) (fun _ _ _ _ _ => (pe_op on_xor (pv 2) (pv 1)))) pa_nil)))), ?_⟩
    have e := el_nats (K := K) (te := tOp (rN0 fun a b => .int ((a ^^^ b : Nat) : Int)) (tVar 2) (tVar 1)) (t := tYes) (tl := tVar 0) (j := 2) (vs := [2]) (σ := [some (.ref p), some (.int t), none]) (fun _ => true) (fun m => .int ((m ^^^ t : Nat) : Int)) (ev_v 0) hs (by omega) (fun _ => rfl) (fun _ _ _ _ => et_yes) (fun m H1 e hm _ => ev_n (ev_v 2) (ev_v 1))
    rw [map_all] at e
    have e2 : EvL (tLc (iList K (tVar 0)) (gName 2) tYes (tOp (rN0 fun a b => .int ((a ^^^ b : Nat) : Int)) (tVar 2) (tVar 1)) [2]) [some (.ref p), some (.int t), none] H (nv (ms.map fun m => m ^^^ t)) := by
      unfold nv; rw [List.map_map]; exact e
    refine el_sortI e2 H (Ex.refl H) _ (fun M l H2 h1 h2 hl e3 h3 => q M h1 h2 l H2 hl e3 h3)
def joinF (size : Nat) (ms os : List Nat) : List Nat := listF ((List.range (1 <<< size)).map fun n => decide (∃ m ∈ ms, ∃ o ∈ os, n = m ^^^ o))
def spJoined (K : PySem.W.Frag) : Sp := fun vs H Q _ => ∃ (size : Nat) (p p2 : Addr) (ms os : List Nat), vs = [.int size, .ref p, .ref p2] ∧ SqL K H p (nv ms) ∧ SqL K H p2 (nv os) ∧ size ≤ 6 ∧ (∀ m ∈ ms, m < 1 <<< size) ∧ (∀ m ∈ os, m < 1 <<< size) ∧ RetL (nv (joinF size ms os)) H Q
theorem xor_lt_sh {a b n : Nat} (ha : a < 1 <<< n) (hb : b < 1 <<< n) : a ^^^ b < 1 <<< n := by
  rw [Nat.one_shiftLeft] at *
  exact Nat.xor_lt_two_pow ha hb
theorem sc_law_joined : FnScope ["_law_size", "_law_masks", "_law_other", "_law_row", "_law_number_here", "_law_more"] ["_law_size", "_law_masks", "_law_other"] (defScope (top 61)) := ⟨rfl, rfl, rfl, by decide +kernel, rfl, by decide +kernel, by decide +kernel⟩
theorem c_law_joined (F : FnP K "_law_joined" (top 61) f fd) (g : mg "_law_joined" = some (.ref f)) (B : Bi mg) (c_law_inside : Cal P w K mg base 1 "_law_inside" (spIns K) []) (c_law_listed : Cal P w K mg base 1 "_law_listed" (spListed K) []) : Cal P w K mg base 2 "_law_joined" (spJoined K) [] := by
  refine mkCal F g sc_law_joined (fun _ _ _ _ _ _ us hl => match us, hl with | [_, _, _], _ => rfl) (fun vs H Q E h => ?_) (fun cdv A outer s H vs Q E hr h => ?_)
  · obtain ⟨size, p, p2, ms, os, rfl, _⟩ := h
    rfl
  · obtain ⟨size, p, p2, ms, os, rfl, hs, hs2, hz, hb, hb2, q⟩ := h
    have h64 := pow64 hz
    refine ⟨_, (pss_cons (ps_set (i := 3) sc_law_joined.nd rfl (by first | exact Or.inl rfl | exact Or.inr rfl) (pe_c c_law_inside hr (by decide) rfl (pa_cons (pv 0) (pa_cons (pe_lst pa_nil) pa_nil)))) (pss_cons (ps_for PassesOwn.never rfl (pi_list (pv 1)) (pg_name (i := 4) sc_law_joined.nd rfl (by first | exact Or.inl rfl | exact Or.inr rfl)) (pss_one (ps_for PassesOwn.never rfl (pi_list (pv 2)) (pg_name (i := 5) sc_law_joined.nd rfl (by first | exact Or.inl rfl | exact Or.inr rfl)) (pss_one (ps_asg pe_bl (pg_sub (pv 3) (pe_op on_xor (pv 4) (pv 5)) set_list)))))) (pss_one (ps_ret (pe_c c_law_listed hr (by decide) rfl (pa_cons (pv 3) pa_nil)))))), ?_⟩
    have e0 : EvL (tCall (spIns K) [] E0 (tCons (tVar 0) (tCons (tLst tNil) tNil))) [some (.int size), some (.ref p), some (.ref p2), none, none, none] H (bv (insF size [])) := fun H1 e1 Q1 q1 => by
      refine ⟨.int size, rfl, by decide, fun l hl => ?_⟩
      exact ⟨size, l, [], rfl, sq_of upd_same, hz, (fun m hm => by cases hm), fun r H4 hr4 e4 h4 => q1 r H4 (fresh_back (Ex.new hl) hr4) ((Ex.new hl).trans e4) h4⟩
    refine q_asgL e0 fun r H1 hr1 e1 h1 => ?_
    refine q_forLN (ev_v 1) hs e1 (fun i σ H' => Ex H H' ∧ H' r = some (.lst (bv ((List.range (1 <<< size)).map fun n => decide (∃ m ∈ ms.take i, ∃ o ∈ os, n = m ^^^ o)))) ∧ ∃ v v2, σ = [some (.int size), some (.ref p), some (.ref p2), some (.ref r), v, v2]) (fun H2 e2 => ⟨e1.trans e2, ?_, _, _, rfl⟩) (fun i σ H' h => h.1) ?_ ?_
    · rw [e2 _ _ h1]
      unfold insF
      refine congrArg some (congrArg HO.lst (congrArg bv (List.map_congr_left fun a _ => ?_)))
      simp
    · rintro i n σ H' hn ⟨e0, h2, v, v2, rfl⟩
      have hn1 := hb n (List.mem_of_getElem? hn)
      refine s_forLN (ev_v 2) hs2 e0 (fun k σ H' => Ex H H' ∧ H' r = some (.lst (bv ((List.range (1 <<< size)).map fun a => decide ((∃ m ∈ ms.take i, ∃ o ∈ os, a = m ^^^ o) ∨ ∃ o ∈ os.take k, a = n ^^^ o)))) ∧ ∃ v2, σ = [some (.int size), some (.ref p), some (.ref p2), some (.ref r), some (.int n), v2]) (fun H2 e2 => ⟨e0.trans e2, ?_, _, rfl⟩) (fun i σ H' h => h.1) ?_ ?_
      · rw [e2 _ _ h2]
        refine congrArg some (congrArg HO.lst (congrArg bv (List.map_congr_left fun a _ => ?_)))
        simp
      · rintro k o σ H' ho ⟨e3, h3, v3, rfl⟩
        have ho1 := hb2 o (List.mem_of_getElem? ho)
        have hx := xor_lt_sh hn1 ho1
        refine s_setL h3 ev_c (ev_v 3) (ev_n (ev_v 4) (ev_v 5)) (by rw [bv_len, List.length_map, List.length_range]; exact hx) fun H4 e4 => ⟨Ex.mut (e3.trans e4) hr1, ?_, some (.int o), rfl⟩
        rw [upd_same]
        refine congrArg some (congrArg HO.lst (map_set hx fun a => ?_))
        rw [List.take_add_one, ho, Option.toList_some]
        by_cases hk : a = n ^^^ o
        · rw [if_pos hk]
          exact decide_eq_true (.inr ⟨o, by simp, hk⟩)
        · rw [if_neg hk]
          congr 1
          simp only [List.mem_append, List.mem_singleton, eq_iff_iff]
          constructor
          · rintro (h | ⟨o', h | h, e⟩)
            · exact .inl h
            · exact .inr ⟨o', h, e⟩
            · exact absurd (h ▸ e) hk
          · rintro (h | ⟨o', h, e⟩)
            · exact .inl h
            · exact .inr ⟨o', .inl h, e⟩
      · rintro σ H' ⟨e3, h3, v3, rfl⟩
        refine ⟨e3, ?_, _, _, rfl⟩
        rw [h3, List.take_length]
        refine congrArg some (congrArg HO.lst (congrArg bv (List.map_congr_left fun a _ => ?_)))
        congr 1
        rw [List.take_add_one, hn, Option.toList_some]
        simp only [List.mem_append, List.mem_singleton, eq_iff_iff]
        constructor
        · rintro (⟨m, h, e⟩ | h)
          · exact ⟨m, .inl h, e⟩
          · exact ⟨n, .inr rfl, h⟩
        · rintro ⟨m, h | h, e⟩
          · exact .inl ⟨m, h, e⟩
          · exact .inr (h ▸ e)
    · rintro σ H' ⟨e3, h2, v, v2, rfl⟩
      rw [List.take_length] at h2
      refine s_retL (el_call (ea_cons (ev_v 3) ea_nil) (fun H2 e2 Q2 q2 E2 => ⟨r, _, rfl, sq_of (e2 _ _ h2), by simp; omega, q2⟩)) fun l H2 hl e2 h3 => q l H2 (fresh_back e3 hl) (e3.trans e2) h3
def nearF (ms : List Nat) (t : Nat) : List Nat := ms.filter fun m => decide (bits (m ^^^ t) = mn (ms.map fun n => bits (n ^^^ t)))
def farF (ms : List Nat) (t : Nat) : List Nat := ms.filter fun m => decide (bits (m ^^^ t) = mx (ms.map fun n => bits (n ^^^ t)))
def spNear (K : PySem.W.Frag) (R : List Nat → Nat → List Nat) : Sp := fun vs H Q _ => ∃ (p : Addr) (ms : List Nat) (t : Nat), vs = [.ref p, .int t] ∧ SqL K H p (nv ms) ∧ ms.length ≤ 64 ∧ ms ≠ [] ∧ RetL (nv (R ms t)) H Q
theorem nv_map {ms : List Nat} {g : Nat → Nat} : nv (ms.map g) = (ms.filter fun _ => true).map fun m => V.int ((g m : Nat) : Int) := by rw [map_all]; unfold nv; rw [List.map_map]; rfl
def basesF (ms : List Nat) (t : Nat) : List Nat := (nearF ms t).map fun m => m ^^^ t
end
end W7
end
section
namespace W7
open PySem PySem.Spec PyProof.Rows L2 L3 Evl
open C8 (Cal pe_c Mak pe_mk Met pe_mt pe_mt0)
section
variable {K : PySem.W.Frag} {σ : L2.St} {H H' H1 H2 : Hp} {a : Addr} {ta tb tc te tl tm : TE} {v : V} {t : TT} {D : Ends} {tz : TS}
def DrawsAt (H : Hp) (a : Addr) : Prop := ∃ xs : List Int, H a = some (.lst (xs.map V.int))
structure SB (a : Addr) (H H' : Hp) : Prop where
  kp : ∀ b o, b ≠ a → H b = some o → H' b = some o
  dr : DrawsAt H' a
theorem SB.refl (h : DrawsAt H a) : SB a H H := ⟨fun _ _ _ e => e, h⟩
theorem SB.trans (s : SB a H H1) (t : SB a H1 H2) : SB a H H2 := ⟨fun b o n e => t.kp b o n (s.kp b o n e), t.dr⟩
theorem DrawsAt.ex (h : DrawsAt H a) (e : Ex H H') : DrawsAt H' a := h.elim fun xs z => ⟨xs, e _ _ z⟩
theorem SB.of (h : DrawsAt H a) (e : Ex H H') : SB a H H' := ⟨fun b o _ z => e b o z, h.ex e⟩
theorem SB.ex (s : SB a H H1) (e : Ex H1 H2) : SB a H H2 := s.trans (.of s.dr e)
theorem SB.tup (s : SB a H H') (h : DrawsAt H a) {p : Addr} {xs : List V} (e : H p = some (.tup xs)) : H' p = some (.tup xs) := s.kp p _ (fun h2 => by obtain ⟨ys, h⟩ := h; rw [h2, h] at e; cases e) e
theorem SB.ne (h : DrawsAt H a) {p : Addr} (e : H p = none) : p ≠ a := fun h2 => by obtain ⟨ys, h⟩ := h; rw [h2, h] at e; cases e
theorem TupV.sb {r : V} {ns : List Nat} (h : TupV H r ns) (d : DrawsAt H a) (s : SB a H H') : TupV H' r ns := h.elim fun t z => ⟨t, z.1, s.tup d z.2⟩
theorem Lots.sb {rs : List V} {L : List (List Nat)} (h : Lots H rs L) (d : DrawsAt H a) (s : SB a H H') : Lots H' rs L := ⟨h.1, fun i r ns x y => (h.2 i r ns x y).sb d s⟩
/-- a value drawn or reckoned out of drawn ones -/
def EvR (a : Addr) (te : TE) (σ : L2.St) (p : Nat → Prop) : Prop := ∀ H1, DrawsAt H1 a → ∀ Q : VK, (∀ (n : Nat) H2, p n → SB a H1 H2 → Q (.int (n : Nat)) H2) → te σ H1 Q
theorem er_v (i : Nat) {n : Nat} (h : σ[i]? = some (some (.int (n : Nat))) := by rfl) : EvR a (tVar i) σ (· = n) := fun H1 d Q q => ⟨_, h, q n H1 rfl (.refl d)⟩
theorem er_c {n : Nat} : EvR a (tC (.int (n : Nat))) σ (· = n) := fun H1 d Q q => q n H1 rfl (.refl d)
theorem er_n {g : Nat → Nat → Nat} {p q : Nat → Prop} (ha : EvR a ta σ p) (hb : EvR a tb σ q) : EvR a (tOp (rN0 fun x y => .int ((g x y : Nat) : Int)) ta tb) σ (fun z => ∃ x y, p x ∧ q y ∧ z = g x y) := fun H1 d Q k =>
  ha H1 d _ fun x H2 hx s2 => hb H2 s2.dr _ fun y H3 hy s3 => ⟨x, y, rfl, rfl, k _ H3 ⟨x, y, hx, hy, rfl⟩ (s2.trans s3)⟩
theorem er_nc {C : Nat → Nat → Prop} {g : Nat → Nat → Nat} {p q : Nat → Prop} (ha : EvR a ta σ p) (hb : EvR a tb σ q) (hc : ∀ x y, p x → q y → C x y) : EvR a (tOp (rN C fun x y => .int ((g x y : Nat) : Int)) ta tb) σ (fun z => ∃ x y, p x ∧ q y ∧ z = g x y) := fun H1 d Q k =>
  ha H1 d _ fun x H2 hx s2 => hb H2 s2.dr _ fun y H3 hy s3 => ⟨x, y, rfl, rfl, hc x y hx hy, k _ H3 ⟨x, y, hx, hy, rfl⟩ (s2.trans s3)⟩
theorem er_w {p q : Nat → Prop} (h : EvR a te σ p) (w : ∀ n, p n → q n) : EvR a te σ q := fun H1 d Q k => h H1 d Q fun n H2 hn => k n H2 (w n hn)
/-- take -/
def spTake : Sp := fun vs H Q _ => ∃ (a : Addr) (many : Nat), vs = [.ref a, .int many] ∧ 0 < many ∧ DrawsAt H a ∧ ∀ (r : Nat) H', r < many → SB a H H' → Q (.int r) H'
theorem er_take {p : Nat → Prop} {E : XK} (i : Nat) (hm : EvR a tm σ p) (hp : ∀ n, p n → 0 < n) (h : σ[i]? = some (some (.ref a)) := by rfl) : EvR a (tCall spTake [] E (tCons (tVar i) (tCons tm tNil))) σ (fun r => ∃ n, p n ∧ r < n) := fun H1 d Q q =>
  ⟨_, h, hm H1 d _ fun n H2 hn s2 => ⟨a, n, rfl, hp n hn, s2.dr, fun r H3 hr s3 => q r H3 ⟨n, hn, hr⟩ (s2.trans s3)⟩⟩
theorem r_asg {i : Nat} {p : Nat → Prop} (d : DrawsAt H a) (h : EvR a te σ p) (k : ∀ (n : Nat) H1, p n → SB a H H1 → tz D (σ.set i (some (.int (n : Nat)))) H1) : tSeq (tAsg te (gName i)) tz D σ H := h H d _ fun n H1 hn s => k n H1 hn s
theorem r_asg1 {i : Nat} {p : Nat → Prop} (d : DrawsAt H a) (h : EvR a te σ p) (k : ∀ (n : Nat) H1, p n → SB a H H1 → D.nx (σ.set i (some (.int (n : Nat)))) H1) : tAsg te (gName i) D σ H := h H d _ fun n H1 hn s => k n H1 hn s
end
section
variable {P : Program} {w : World} {K : PySem.W.Frag} {mg : Str → Option Value} {base : Heap} {f : Addr} {fd : FuncData}
theorem sc_law_take : FnScope ["_law_draws_here", "_law_many"] ["_law_draws_here", "_law_many"] (defScope (top 49)) := ⟨rfl, rfl, rfl, by decide +kernel, rfl, by decide +kernel, by decide +kernel⟩
theorem c_law_take (F : FnP K "_law_take" (top 49) f fd) (g : mg "_law_take" = some (.ref f)) (B : Bi mg) : Cal P w K mg base 1 "_law_take" spTake [] := by
  refine mkCal F g sc_law_take (fun _ _ _ _ _ _ us hl => match us, hl with | [_, _], _ => rfl) (fun vs H Q E h => ?_) (fun cdv A outer s H vs Q E hr h => ?_)
  · obtain ⟨a, m, rfl, _⟩ := h
    rfl
  · obtain ⟨a, m, rfl, hm, ⟨xs, hd⟩, q⟩ := h
    refine ⟨_, (pss_cons (ps_if (pt_cmpR op_eq (pe_callB call_len_seq (by rfl) B.len (by decide +kernel) (pa_cons (pv 0) pa_nil)) pe_int (nomark _)) (pss_one (ps_ret (pe_nat 0 pe_int))) pss_nil) (pss_one (ps_ret (pe_op op_mod (pe_callTy call_int1 (by rfl) B.int (by decide +kernel) (pa_cons (pe_bm0 PySem.F.plainAttrs_list PySem.F.slot_list_pop PySem.F.type_list_pop mt_pop (pv 0)) pa_nil)) (pv 1))))), ?_⟩
    refine ⟨.ref a, rfl, a, _, rfl, .inl (sq_of hd), rfl, ?_⟩
    refine ⟨_, rfl, ?_⟩
    refine ite2 (fun h => ?_) (fun h => ?_)
    · exact q 0 H hm (.refl ⟨xs, hd⟩)
    · have hne : xs ≠ [] := by
        rintro rfl
        exact h rfl
      refine ⟨.ref a, rfl, .inl ⟨rfl, _, sq_of hd⟩, a, _, .int (xs.getLast hne), rfl, rfl, hd, ?_, .inl ⟨_, rfl, ?_⟩⟩
      · rw [List.length_map, List.getElem?_map, ← List.getLast?_eq_getElem?, List.getLast?_eq_getLast hne]; rfl
      · refine ⟨.int m, rfl, _, _, rfl, rfl, ?_, ?_⟩
        · show (0 : Int) < (m : Int); omega
        · have h1 : 0 ≤ (xs.getLast hne) % (m : Int) := Int.emod_nonneg _ (by omega)
          have h2 : (xs.getLast hne) % (m : Int) < m := Int.emod_lt_of_pos _ (by omega)
          show Q (.int ((xs.getLast hne) % (m : Int))) _
          have e : (xs.getLast hne) % (m : Int) = (((xs.getLast hne) % (m : Int)).toNat : Nat) := by omega
          rw [e]
          refine q _ _ (by omega) ⟨fun b o hb hz => by rw [upd_ne hb]; exact hz, xs.dropLast, by rw [upd_same, List.map_dropLast]⟩
/-- the links of a web, at p -/
def LinksAt (H : Hp) (p : Addr) (ls : List (Nat × Nat)) : Prop := ∃ rs, H p = some (.lst rs) ∧ Lots H rs (ls.map fun l => [l.1, l.2])
def LinksOk (size : Nat) (ls : List (Nat × Nat)) : Prop := (∀ l ∈ ls, l.1 < l.2 ∧ l.2 < size) ∧ ls.length ≤ 64
def spWeb : Sp := fun vs H Q _ => ∃ (a : Addr) (size : Nat), vs = [.ref a, .int size] ∧ 1 ≤ size ∧ size ≤ 5 ∧ DrawsAt H a ∧ ∀ (ls : List (Nat × Nat)) p H', LinksOk size ls → p ≠ a → SB a H H' → LinksAt H' p ls → Q (.ref p) H'
theorem lots_push2 {H : Hp} {p b : Addr} {rs : List V} {ls : List (Nat × Nat)} {l : Nat × Nat} (h : Lots H rs (ls.map fun l => [l.1, l.2])) (hp : ∃ xs, H p = some (.lst xs)) (hb : H b = none) :
    Lots (upd (upd H b (.tup [.int (l.1 : Nat), .int (l.2 : Nat)])) p (.lst (rs ++ [.ref b]))) (rs ++ [.ref b]) ((ls ++ [l]).map fun l => [l.1, l.2]) := by
  obtain ⟨xs, hp⟩ := hp
  have hbp : b ≠ p := fun e => by rw [e, hp] at hb; cases hb
  rw [List.map_append]
  refine Lots.push ⟨h.1, fun i r ns x y => ?_⟩ ⟨b, rfl, by rw [upd_ne hbp, upd_same]; rfl⟩
  obtain ⟨t, rfl, z⟩ := h.2 i r ns x y
  refine ⟨t, rfl, ?_⟩
  rw [upd_ne (fun e => by rw [e, hp] at z; cases z), upd_ne (fun e => by rw [e, hb] at z; cases z)]
  exact z
theorem sc_law_web : FnScope ["_law_draws_here", "_law_size", "_law_links", "_law_word", "_law_y", "_law_x"] ["_law_draws_here", "_law_size"] (defScope (top 58)) := ⟨rfl, rfl, rfl, by decide +kernel, rfl, by decide +kernel, by decide +kernel⟩
theorem c_law_web (F : FnP K "_law_web" (top 58) f fd) (g : mg "_law_web" = some (.ref f)) (B : Bi mg) (c_law_take : Cal P w K mg base 1 "_law_take" spTake []) : Cal P w K mg base 2 "_law_web" spWeb [] := by
  refine mkCal F g sc_law_web (fun _ _ _ _ _ _ us hl => match us, hl with | [_, _], _ => rfl) (fun vs H Q E h => ?_) (fun cdv A outer s H vs Q E hr h => ?_)
  · obtain ⟨a, m, rfl, _⟩ := h
    rfl
  · obtain ⟨a, size, rfl, h1, h5, hd, q⟩ := h
    refine ⟨_, (pss_cons (ps_set (i := 2) sc_law_web.nd rfl (by first | exact Or.inl rfl | exact Or.inr rfl) (pe_lst pa_nil)) (pss_cons (ps_set (i := 3) sc_law_web.nd rfl (by first | exact Or.inl rfl | exact Or.inr rfl) (pe_c c_law_take hr (by decide) rfl (pa_cons (pv 0) (pa_cons (pe_nat 4 pe_int) pa_nil)))) (pss_cons (ps_for PassesOwn.never rfl (pi_range2 rfl B.range (pa_cons (pe_nat 1 pe_int) (pa_cons (pv 1) pa_nil))) (pg_name (i := 4) sc_law_web.nd rfl (by first | exact Or.inl rfl | exact Or.inr rfl)) (pss_one (ps_if (pt_cmpR on_eq (pv 3) (pe_nat 1 pe_int) (nomark _)) (pss_one (ps_expr (pe_bm PySem.F.plainAttrs_list PySem.F.slot_list_append PySem.F.type_list_append mt_append (pv 2) (pa_cons (pe_tup (pa_cons (pe_c c_law_take hr (by decide) rfl (pa_cons (pv 0) (pa_cons (pv 4) pa_nil))) (pa_cons (pv 4) pa_nil))) pa_nil)))) (pss_one (ps_for PassesOwn.never rfl (pi_range1 rfl B.range (pa_cons (pv 4) pa_nil)) (pg_name (i := 5) sc_law_web.nd rfl (by first | exact Or.inl rfl | exact Or.inr rfl)) (pss_one (ps_if (pt_cmpR on_gt (pe_c c_law_take hr (by decide) rfl (pa_cons (pv 0) (pa_cons (pe_nat 5 pe_int) pa_nil))) (pv 3) (nomark _)) (pss_one (ps_expr (pe_bm PySem.F.plainAttrs_list PySem.F.slot_list_append PySem.F.type_list_append mt_append (pv 2) (pa_cons (pe_tup (pa_cons (pv 5) (pa_cons (pv 4) pa_nil))) pa_nil)))) pss_nil))))))) (pss_one (ps_ret (pv 2)))))), ?_⟩
    refine q_asgL (el_lst ea_nil (by decide)) fun p H1 hp e1 hl => ?_
    have hpa := SB.ne hd hp
    refine r_asg (a := a) (hd.ex e1) (er_take 0 er_c (by rintro n rfl; decide)) fun word H2 _ s2 => ?_
    refine q_forR2 (lo := ((1 : Nat) : Int)) (n := (size : Int)) (ea_cons ev_c (ea_cons (ev_v 1) ea_nil)) (by omega) (fun i σ H' => SB a H H' ∧ ∃ ls : List (Nat × Nat), (∀ l ∈ ls, l.1 < l.2 ∧ l.2 < size) ∧ ls.length ≤ 5 * i ∧ LinksAt H' p ls ∧ ∃ v1 v2, σ = [some (.ref a), some (.int size), some (.ref p), some (.int word), v1, v2]) (fun H3 e3 => ⟨((SB.of hd e1).trans s2).ex e3, [], by simp, by simp, ⟨[], e3 _ _ (s2.kp _ _ hpa hl), nil_lots⟩, _, _, rfl⟩) ?_ ?_
    · rintro i σ H' hi ⟨s0, ls, g1, g2, ⟨rs, g3, g4⟩, v1, v2, rfl⟩
      have hy : ((1 : Nat) : Int) + (i : Int) = ((1 + i : Nat) : Int) := by omega
      rw [hy]
      have hys : 1 + i < size := by omega
      have hlen : rs.length = ls.length := by rw [g4.1, List.length_map]
      refine s_if (et_test (ev_n (ev_v 3) ev_c)) (fun hb H3 e3 => ?_) (fun hb H3 e3 => ?_)
      · have d3 := s0.dr.ex e3
        refine ⟨.ref p, rfl, .inl ⟨rfl, rs, sq_of (e3 _ _ g3)⟩, ?_⟩
        refine ⟨.ref a, rfl, .int (1 + i : Nat), rfl, a, 1 + i, rfl, by omega, d3, fun x H4 hx s4 => ?_⟩
        refine ⟨.int (1 + i : Nat), rfl, (by decide : 2 ≤ sizeLine), fun b hb => ?_⟩
        have hba := SB.ne s4.dr hb
        have g5 : H4 p = some (.lst rs) := s4.kp _ _ hpa (e3 _ _ g3)
        have hbp : b ≠ p := fun e => by rw [e, g5] at hb; cases hb
        refine ⟨p, rs, .ref b, rfl, rfl, by rw [upd_ne hbp.symm]; exact g5, sz_lt (by omega), ?_⟩
        have s5 : SB a H (upd (upd H4 b (.tup [.int (x : Nat), .int (1 + i : Nat)])) p (.lst (rs ++ [.ref b]))) := by
          refine ⟨fun c o hc ho => ?_, ?_⟩
          · have h6 := s4.kp c o hc (e3 _ _ (s0.kp c o hc ho))
            have : c ≠ p := fun e => by rw [e, hp] at ho; cases ho
            have : c ≠ b := fun e => by rw [e, hb] at h6; cases h6
            rw [upd_ne ‹c ≠ p›, upd_ne ‹c ≠ b›]; exact h6
          · obtain ⟨xs, h7⟩ := s4.dr
            exact ⟨xs, by rw [upd_ne hpa.symm, upd_ne hba.symm]; exact h7⟩
        refine ⟨s5, ls ++ [(x, 1 + i)], fun l hl => ?_, by rw [List.length_append, List.length_singleton]; omega, ⟨rs ++ [.ref b], upd_same, ?_⟩, _, _, rfl⟩
        · rcases List.mem_append.mp hl with hl | hl
          · exact g1 l hl
          · rw [List.mem_singleton.mp hl]; exact ⟨hx, hys⟩
        · exact lots_push2 (l := (x, 1 + i)) ((g4.ex e3).sb d3 s4) ⟨_, g5⟩ hb
      · refine s_forR1 (n := ((1 + i : Nat) : Int)) (ea_cons (ev_v 4) ea_nil) (by omega) (fun k σ H' => SB a H H' ∧ ∃ ls : List (Nat × Nat), (∀ l ∈ ls, l.1 < l.2 ∧ l.2 < size) ∧ ls.length ≤ 5 * i + k ∧ LinksAt H' p ls ∧ ∃ v2, σ = [some (.ref a), some (.int size), some (.ref p), some (.int word), some (.int (1 + i : Nat)), v2]) (fun H4 e4 => ⟨(s0.ex e3).ex e4, ls, g1, by omega, ⟨rs, e4 _ _ (e3 _ _ g3), (g4.ex e3).ex e4⟩, _, rfl⟩) ?_ ?_
        · rintro k σ H' hk ⟨s0, ls, g1, g2, ⟨rs, g3, g4⟩, v2, rfl⟩
          have hlen : rs.length = ls.length := by rw [g4.1, List.length_map]
          refine ⟨.ref a, rfl, a, 5, rfl, by decide, s0.dr, fun x H4 hx s4 => ?_⟩
          refine ⟨.int word, rfl, _, _, rfl, rfl, _, rfl, ?_⟩
          have g5 : H4 p = some (.lst rs) := s4.kp _ _ hpa g3
          refine ite2 (fun hb => ?_) (fun hb => ?_)
          · refine ⟨.ref p, rfl, .inl ⟨rfl, rs, sq_of g5⟩, .int (k : Nat), rfl, .int (1 + i : Nat), rfl, (by decide : 2 ≤ sizeLine), fun b hb => ?_⟩
            have hba := SB.ne s4.dr hb
            have hbp : b ≠ p := fun e => by rw [e, g5] at hb; cases hb
            refine ⟨p, rs, .ref b, rfl, rfl, by rw [upd_ne hbp.symm]; exact g5, sz_lt (by omega), ?_⟩
            have s5 : SB a H (upd (upd H4 b (.tup [.int (k : Nat), .int (1 + i : Nat)])) p (.lst (rs ++ [.ref b]))) := by
              refine ⟨fun c o hc ho => ?_, ?_⟩
              · have h6 := s4.kp c o hc (s0.kp c o hc ho)
                have : c ≠ p := fun e => by rw [e, hp] at ho; cases ho
                have : c ≠ b := fun e => by rw [e, hb] at h6; cases h6
                rw [upd_ne ‹c ≠ p›, upd_ne ‹c ≠ b›]; exact h6
              · obtain ⟨xs, h7⟩ := s4.dr
                exact ⟨xs, by rw [upd_ne hpa.symm, upd_ne hba.symm]; exact h7⟩
            refine ⟨s5, ls ++ [(k, 1 + i)], fun l hl => ?_, by rw [List.length_append, List.length_singleton]; omega, ⟨rs ++ [.ref b], upd_same, ?_⟩, _, rfl⟩
            · rcases List.mem_append.mp hl with hl | hl
              · exact g1 l hl
              · rw [List.mem_singleton.mp hl]; exact ⟨by omega, hys⟩
            · exact lots_push2 (l := (k, 1 + i)) (g4.sb s0.dr s4) ⟨_, g5⟩ hb
          · exact ⟨s0.trans s4, ls, g1, by omega, ⟨rs, g5, g4.sb s0.dr s4⟩, _, rfl⟩
        · rintro σ H' ⟨s0, ls, g1, g2, g3, v2, rfl⟩
          exact ⟨s0, ls, g1, by omega, g3, _, _, rfl⟩
    · rintro σ H' ⟨s0, ls, g1, g2, ⟨rs, g3, g4⟩, v1, v2, rfl⟩
      refine s_ret (ev_v 2) fun H2 e2 => ?_
      exact q ls p H2 ⟨g1, by omega⟩ hpa (s0.ex e2) ⟨rs, e2 _ _ g3, g4.ex e2⟩
end
end W7
end
section
namespace W7
open PySem PySem.Spec PyProof.Rows L2 L3 Evl
open C8 (Cal pe_c Mak pe_mk Met pe_mt pe_mt0)
section
variable {K : PySem.W.Frag} {σ : L2.St} {H H' H1 H2 : Hp} {a : Addr} {ta tb tc te tl tm : TE} {v : V} {t : TT} {D : Ends} {tz : TS}
/-- xs.append(v), xs a list that is tracked -/
theorem s_push {l : Addr} {i : Nat} {xs : List V} (hl : H l = some (.lst xs)) (h : Ev te σ H v) (hz : xs.length < 100000) (k : ∀ H1, Ex H H1 → D.nx σ (upd H1 l (.lst (xs ++ [v])))) (ha : σ[i]? = some (some (.ref l)) := by rfl) :
    tDrop (tBM K "list" rAppend (tVar i) (tCons te tNil)) D σ H := s_app hl (ev_var ha) h hz k
end
section
variable {P : Program} {w : World} {K : PySem.W.Frag} {mg : Str → Option Value} {base : Heap} {f : Addr} {fd : FuncData}
def bothF (l : Nat × Nat) : Nat := (1 <<< l.1) + (1 <<< l.2)
def pairAt (row : List Bool) (n : Nat) (l : Nat × Nat) : Bool := decide (n &&& bothF l = bothF l) && (decide (n < 2 <<< l.2) && row.getD (n - bothF l) false)
def pairRow (ls : List (Nat × Nat)) : Nat → List Bool
  | 0 => [true]
  | k + 1 => pairRow ls k ++ [ls.any (pairAt (pairRow ls k) (k + 1))]
theorem pairRow_len (ls : List (Nat × Nat)) : ∀ k, (pairRow ls k).length = k + 1
  | 0 => rfl
  | k + 1 => by rw [pairRow, List.length_append, pairRow_len ls k]; rfl
def pairF (size : Nat) (ls : List (Nat × Nat)) : List Nat := listF (pairRow ls (1 <<< size - 1))
def spPaired (K : PySem.W.Frag) : Sp := fun vs H Q _ => ∃ (size : Nat) (p : Addr) (ls : List (Nat × Nat)), vs = [.int size, .ref p] ∧ LinksAt H p ls ∧ LinksOk size ls ∧ size ≤ 5 ∧ RetL (nv (pairF size ls)) H Q
theorem sc_law_paired : FnScope ["_law_size", "_law_links", "_law_row", "_law_number_here", "_law_good", "_law_link", "_law_both"] ["_law_size", "_law_links"] (defScope (top 59)) := ⟨rfl, rfl, rfl, by decide +kernel, rfl, by decide +kernel, by decide +kernel⟩
theorem c_law_paired (F : FnP K "_law_paired" (top 59) f fd) (g : mg "_law_paired" = some (.ref f)) (B : Bi mg) (c_law_listed : Cal P w K mg base 1 "_law_listed" (spListed K) []) : Cal P w K mg base 2 "_law_paired" (spPaired K) [] := by
  refine mkCal F g sc_law_paired (fun _ _ _ _ _ _ us hl => match us, hl with | [_, _], _ => rfl) (fun vs H Q E h => ?_) (fun cdv A outer s H vs Q E hr h => ?_)
  · obtain ⟨size, p, ls, rfl, _⟩ := h
    rfl
  · obtain ⟨size, p, ls, rfl, ⟨rs, hp, hL⟩, ⟨hls, hll⟩, hz, q⟩ := h
    have h64 := pow64 (n := size) (by omega)
    have hpos : 1 ≤ 1 <<< size := by rw [Nat.one_shiftLeft]; exact Nat.one_le_two_pow
    refine ⟨_, (pss_cons (ps_set (i := 2) sc_law_paired.nd rfl (by first | exact Or.inl rfl | exact Or.inr rfl) (pe_lst (pa_cons pe_bl pa_nil))) (pss_cons (ps_for PassesOwn.never rfl (pi_range2 rfl B.range (pa_cons (pe_nat 1 pe_int) (pa_cons (pe_op on_shl (pe_nat 1 pe_int) (pv 0)) pa_nil))) (pg_name (i := 3) sc_law_paired.nd rfl (by first | exact Or.inl rfl | exact Or.inr rfl)) (pss_cons (ps_set (i := 4) sc_law_paired.nd rfl (by first | exact Or.inl rfl | exact Or.inr rfl) pe_bl) (pss_cons (ps_for PassesOwn.never rfl (pi_list (pv 1)) (pg_name (i := 5) sc_law_paired.nd rfl (by first | exact Or.inl rfl | exact Or.inr rfl)) (pss_cons (ps_set (i := 6) sc_law_paired.nd rfl (by first | exact Or.inl rfl | exact Or.inr rfl) (pe_op on_add (pe_op on_shl (pe_nat 1 pe_int) (pe_ix (on_ixT (K := K)) (pv 5) (pe_nat 0 pe_int) (fun _ _ => rfl))) (pe_op on_shl (pe_nat 1 pe_int) (pe_ix (on_ixT (K := K)) (pv 5) (pe_nat 1 pe_int) (fun _ _ => rfl))))) (pss_one (ps_if (PW.pt (pw_and (pt_cmpR on_eq (pe_op on_and (pv 3) (pv 6)) (pv 6) (nomark _)) (pw_and (pt_cmpR on_lt (pv 3) (pe_op on_shl (pe_nat 2 pe_int) (pe_ix (on_ixT (K := K)) (pv 5) (pe_nat 1 pe_int) (fun _ _ => rfl))) (nomark _)) (pw_and1 (pt_val (pe_ix (on_ix (K := K)) (pv 2) (pe_op on_sub (pv 3) (pv 6)) (fun _ _ => rfl))))))) (pss_one (ps_set (i := 4) sc_law_paired.nd rfl (by first | exact Or.inl rfl | exact Or.inr rfl) pe_bl)) pss_nil)))) (pss_one (ps_expr (pe_bm PySem.F.plainAttrs_list PySem.F.slot_list_append PySem.F.type_list_append mt_append (pv 2) (pa_cons (pv 4) pa_nil))))))) (pss_one (ps_ret (pe_c c_law_listed hr (by decide) rfl (pa_cons (pv 2) pa_nil)))))), ?_⟩
    refine q_asgL (el_lst (ea_cons ev_c ea_nil) (by decide : 1 ≤ 100000)) fun r H1 hr1 e1 hl => ?_
    refine q_forR2 (lo := ((1 : Nat) : Int)) (n := ((1 <<< size : Nat) : Int)) (ea_cons ev_c (ea_cons (ev_nc ev_c (ev_v 0) ⟨by decide, by omega⟩) ea_nil)) (by omega) (fun i σ H' => Ex H H' ∧ H' r = some (.lst (bv (pairRow ls i))) ∧ ∃ v1 v2 v3 v4, σ = [some (.int size), some (.ref p), some (.ref r), v1, v2, v3, v4]) (fun H3 e3 => ⟨e1.trans e3, e3 _ _ hl, _, _, _, _, rfl⟩) ?_ ?_
    · rintro i σ H' hi ⟨e0, h2, v1, v2, v3, v4, rfl⟩
      have hy : ((1 : Nat) : Int) + (i : Int) = ((i + 1 : Nat) : Int) := by omega
      rw [hy]
      have hi2 : i + 1 < 1 <<< size := by omega
      refine q_asg ev_c fun H2 e2 => ?_
      refine q_forL (xs := rs) (ev_v 1) (sq_of (e2 _ _ (e0 _ _ hp))) (fun j σ H' => Ex H H' ∧ H' r = some (.lst (bv (pairRow ls i))) ∧ ∃ v3 v4, σ = [some (.int size), some (.ref p), some (.ref r), some (.int (i + 1 : Nat)), some (.bl ((ls.take j).any (pairAt (pairRow ls i) (i + 1)))), v3, v4]) (fun H3 e3 => ⟨(e0.trans e2).trans e3, e3 _ _ (e2 _ _ h2), _, _, rfl⟩) (fun j σ H' _ h => sq_of (h.1 _ _ hp)) ?_ ?_
      · rintro j x σ H' hx ⟨e3, h3, v3, v4, rfl⟩
        have hj : j < ls.length := by have := (List.getElem?_eq_some_iff.mp hx).1; rw [hL.1, List.length_map] at this; exact this
        have hl1 : ls[j]? = some ls[j] := List.getElem?_eq_some_iff.mpr ⟨hj, rfl⟩
        obtain ⟨t, rfl, ht⟩ := (hL.2 j x [ls[j].1, ls[j].2] hx (by rw [List.getElem?_map, hl1]; rfl)).ex e3
        obtain ⟨g1, g2⟩ := hls ls[j] (List.getElem_mem hj)
        have ix0 : ∀ {σ : L2.St} {H4 : Hp}, Ex H' H4 → σ[5]? = some (some (.ref t)) → Ev (tOp (rIxTN K) (tVar 5) (tC (.int ((0 : Nat) : Int)))) σ H4 (.int (ls[j].1 : Nat)) := fun e4 h => ev_ixT (st_of (e4 _ _ ht)) (ev_var h) ev_c rfl
        have ix1 : ∀ {σ : L2.St} {H4 : Hp}, Ex H' H4 → σ[5]? = some (some (.ref t)) → Ev (tOp (rIxTN K) (tVar 5) (tC (.int ((1 : Nat) : Int)))) σ H4 (.int (ls[j].2 : Nat)) := fun e4 h => ev_ixT (st_of (e4 _ _ ht)) (ev_var h) ev_c rfl
        show tSeq _ _ _ _ H'
        refine q_asg (ev_n (ev_nc ev_c (ix0 (Ex.refl _) rfl) ⟨by decide, by omega⟩) (ev_nc ev_c (ix1 (Ex.refl _) rfl) ⟨by decide, by omega⟩)) fun H4 e4 => ?_
        have key : ((ls.take (j + 1)).any (pairAt (pairRow ls i) (i + 1))) = ((ls.take j).any (pairAt (pairRow ls i) (i + 1)) || pairAt (pairRow ls i) (i + 1) ls[j]) := by
          rw [List.take_add_one, hl1, Option.toList_some, List.any_append]
          simp
        have hlen := pairRow_len ls i
        have hb0 : bothF ls[j] ≠ 0 := by unfold bothF; rw [Nat.one_shiftLeft, Nat.one_shiftLeft]; have := Nat.one_le_two_pow (n := ls[j].1); have := Nat.one_le_two_pow (n := ls[j].2); omega
        refine s_if (b := pairAt (pairRow ls i) (i + 1) ls[j]) (et_and (et_test (ev_n (ev_n (ev_v 3) (ev_v 6)) (ev_v 6))) fun c1 => et_and (et_test (ev_n (ev_v 3) (ev_nc ev_c (ix1 e4 rfl) ⟨by decide, by omega⟩))) fun c2 => ?_) (fun hb H5 e5 => ?_) (fun hb H5 e5 => ?_)
        · have c3 := of_decide_eq_true c1
          have hle : bothF ls[j] ≤ i + 1 := by rw [← c3]; exact Nat.and_le_left
          refine et_B (ev_ix (sq_of (e4 _ _ h3)) (ev_v 2) (ev_nc (ev_v 3) (ev_v 6) hle) (bv_get ?_))
          show i + 1 - bothF ls[j] < _
          omega
        · refine s_asg ev_c fun H6 e6 => ⟨e3.trans (e4.trans (e5.trans e6)), e6 _ _ (e5 _ _ (e4 _ _ h3)), some (.ref t), some (.int (bothF ls[j] : Nat)), ?_⟩
          rw [key, hb, Bool.or_true]; rfl
        · refine ⟨e3.trans (e4.trans e5), e5 _ _ (e4 _ _ h3), some (.ref t), some (.int (bothF ls[j] : Nat)), ?_⟩
          rw [key, hb, Bool.or_false]; rfl
      · rintro σ H' ⟨e3, h3, v3, v4, rfl⟩
        refine s_push (i := 2) h3 (ev_v 4) (by rw [bv_len, pairRow_len]; omega) fun H4 e4 => ⟨Ex.mut (e3.trans e4) hr1, ?_, _, _, _, _, rfl⟩
        rw [upd_same, hL.1, List.length_map, List.take_length, pairRow]
        unfold bv
        rw [List.map_append]; rfl
    · rintro σ H' ⟨e0, h2, v1, v2, v3, v4, rfl⟩
      have hn : (((1 <<< size : Nat) : Int) - ((1 : Nat) : Int)).toNat = 1 <<< size - 1 := by omega
      rw [hn] at h2
      refine s_retL (el_call (ea_cons (ev_v 2) ea_nil) (fun H2 e2 Q2 q2 E2 => ⟨r, _, rfl, sq_of (e2 _ _ h2), by rw [pairRow_len]; omega, q2⟩)) fun l H2 hl e2 h3 => q l H2 (fresh_back e0 hl) (e0.trans e2) h3
/-! ### breaks -/
def ansF (size : Nat) (ms : List Nat) (n x : Nat) : Nat → Nat
  | 0 => 0
  | y + 1 => if !decide (y = x) && decide ((n ^^^ (1 <<< y)) ∈ ms) then ansF size ms n x y + 1 <<< y else ansF size ms n x y
def badF (size : Nat) (ms : List Nat) (m x g : Nat) : Bool := !decide ((m ^^^ (1 <<< x)) ∈ ms) && (decide (((m ^^^ g) >>> x) &&& 1 = 1) && decide ((m ^^^ g) &&& ansF size ms (m ^^^ (1 <<< x)) x size = 0))
def GatedP (size : Nat) (ms : List Nat) : Prop := ∀ m ∈ ms, ∀ x, x < size → ∀ g ∈ ms, badF size ms m x g = false
def spBreaks (K : PySem.W.Frag) : Sp := fun vs H Q _ => ∃ (size : Nat) (p : Addr) (ms : List Nat), vs = [.int size, .ref p] ∧ SqL K H p (nv ms) ∧ size ≤ 6 ∧ (∀ m ∈ ms, m < 1 <<< size) ∧ (GatedP size ms → RetL [] H Q) ∧ (¬ GatedP size ms → ∀ x y z, RetL [x, y, z] H Q)
theorem insF_get {size n : Nat} {ms : List Nat} (h : n < 1 <<< size) : (bv (insF size ms))[n]? = some (.bl (decide (n ∈ ms))) := by
  rw [bv_get (by unfold insF; simpa using h)]
  unfold insF
  rw [List.getD, List.getElem?_map, List.getElem?_range h]
  rfl
theorem one_lt_sh {x n : Nat} (h : x < n) : 1 <<< x < 1 <<< n := by
  rw [Nat.one_shiftLeft, Nat.one_shiftLeft]
  exact Nat.pow_lt_pow_right (by decide) h
theorem sc_law_breaks : FnScope ["_law_size", "_law_masks", "_law_row", "_law_number_here", "_law_thing", "_law_near", "_law_answers", "_law_other", "_law_goal", "_law_apart"] ["_law_size", "_law_masks"] (defScope (top 62)) := ⟨rfl, rfl, rfl, by decide +kernel, rfl, by decide +kernel, by decide +kernel⟩
theorem c_law_breaks (F : FnP K "_law_breaks" (top 62) f fd) (g : mg "_law_breaks" = some (.ref f)) (B : Bi mg) (c_law_inside : Cal P w K mg base 1 "_law_inside" (spIns K) []) : Cal P w K mg base 2 "_law_breaks" (spBreaks K) [] := by
  refine mkCal F g sc_law_breaks (fun _ _ _ _ _ _ us hl => match us, hl with | [_, _], _ => rfl) (fun vs H Q E h => ?_) (fun cdv A outer s H vs Q E hr h => ?_)
  · obtain ⟨size, p, ms, rfl, _⟩ := h
    rfl
  · obtain ⟨size, p, ms, rfl, hs, hz, hb, q1, q2⟩ := h
    have h64 := pow64 hz
    refine ⟨_, (pss_cons (ps_set (i := 2) sc_law_breaks.nd rfl (by first | exact Or.inl rfl | exact Or.inr rfl) (pe_c c_law_inside hr (by decide) rfl (pa_cons (pv 0) (pa_cons (pv 1) pa_nil)))) (pss_cons (ps_for PassesOwn.never rfl (pi_list (pv 1)) (pg_name (i := 3) sc_law_breaks.nd rfl (by first | exact Or.inl rfl | exact Or.inr rfl)) (pss_one (ps_for PassesOwn.never rfl (pi_range1 rfl B.range (pa_cons (pv 0) pa_nil)) (pg_name (i := 4) sc_law_breaks.nd rfl (by first | exact Or.inl rfl | exact Or.inr rfl)) (pss_cons (ps_set (i := 5) sc_law_breaks.nd rfl (by first | exact Or.inl rfl | exact Or.inr rfl) (pe_op on_xor (pv 3) (pe_op on_shl (pe_nat 1 pe_int) (pv 4)))) (pss_one (ps_if (pt_not (pt_val (pe_ix (on_ix (K := K)) (pv 2) (pv 5) (fun _ _ => rfl)))) (pss_cons (ps_set (i := 6) sc_law_breaks.nd rfl (by first | exact Or.inl rfl | exact Or.inr rfl) (pe_nat 0 pe_int)) (pss_cons (ps_for PassesOwn.never rfl (pi_range1 rfl B.range (pa_cons (pv 0) pa_nil)) (pg_name (i := 7) sc_law_breaks.nd rfl (by first | exact Or.inl rfl | exact Or.inr rfl)) (pss_one (ps_if (PW.pt (pw_and (pt_cmpR on_ne (pv 7) (pv 4) (nomark _)) (pw_and1 (pt_val (pe_ix (on_ix (K := K)) (pv 2) (pe_op on_xor (pv 5) (pe_op on_shl (pe_nat 1 pe_int) (pv 7))) (fun _ _ => rfl)))))) (pss_one (ps_aug (i := 6) sc_law_breaks.nd rfl (by first | exact Or.inl rfl | exact Or.inr rfl) (pe_op on_shl (pe_nat 1 pe_int) (pv 7)) ip_addN)) pss_nil))) (pss_one (ps_for PassesOwn.never rfl (pi_list (pv 1)) (pg_name (i := 8) sc_law_breaks.nd rfl (by first | exact Or.inl rfl | exact Or.inr rfl)) (pss_cons (ps_set (i := 9) sc_law_breaks.nd rfl (by first | exact Or.inl rfl | exact Or.inr rfl) (pe_op on_xor (pv 3) (pv 8))) (pss_one (ps_if (PW.pt (pw_and (pt_cmpR on_eq (pe_op on_and (pe_op on_shr (pv 9) (pv 4)) (pe_nat 1 pe_int)) (pe_nat 1 pe_int) (nomark _)) (pw_and1 (pt_cmpR on_eq (pe_op on_and (pv 9) (pv 6)) (pe_nat 0 pe_int) (nomark _))))) (pss_one (ps_ret (pe_lst (pa_cons (pv 3) (pa_cons (pv 8) (pa_cons (pv 4) pa_nil)))))) pss_nil))))))) pss_nil)))))) (pss_one (ps_ret (pe_lst pa_nil))))), ?_⟩
    refine q_asgL (el_call (ea_cons (ev_v 0) (ea_cons (ev_v 1) ea_nil)) (fun H2 e2 Q2 q2 E2 => ⟨size, p, ms, rfl, ex_l e2 hs, hz, hb, q2⟩)) fun r H1 hr1 e1 h1 => ?_
    refine q_forLN (ev_v 1) hs e1 (fun i σ H' => Ex H1 H' ∧ (∀ m ∈ ms.take i, ∀ x, x < size → ∀ g ∈ ms, badF size ms m x g = false) ∧ ∃ v1 v2 v3 v4 v5 v6 v7, σ = [some (.int size), some (.ref p), some (.ref r), v1, v2, v3, v4, v5, v6, v7]) (fun H2 e2 => ⟨e2, by simp, _, _, _, _, _, _, _, rfl⟩) (fun i σ H' h => e1.trans h.1) ?_ ?_
    · rintro i m σ H' hm ⟨e2, hg, v1, v2, v3, v4, v5, v6, v7, rfl⟩
      have hm1 := hb m (List.mem_of_getElem? hm)
      refine s_forR1 (n := (size : Int)) (ea_cons (ev_v 0) ea_nil) (by omega) (fun x σ H' => Ex H1 H' ∧ (∀ y, y < x → ∀ g ∈ ms, badF size ms m y g = false) ∧ ∃ v2 v3 v4 v5 v6 v7, σ = [some (.int size), some (.ref p), some (.ref r), some (.int m), v2, v3, v4, v5, v6, v7]) (fun H3 e3 => ⟨e2.trans e3, by simp, _, _, _, _, _, _, rfl⟩) ?_ ?_
      · rintro x σ H' hx ⟨e3, hgx, v2, v3, v4, v5, v6, v7, rfl⟩
        have hxs : x < size := by omega
        refine q_asg (ev_n (ev_v 3) (ev_nc ev_c (ev_v 4) ⟨by decide, by omega⟩)) fun H4 e4 => ?_
        have hnl : m ^^^ (1 <<< x) < 1 <<< size := xor_lt_sh hm1 (one_lt_sh hxs)
        refine s_if (et_not (et_B (ev_ix (sq_of (e4 _ _ (e3 _ _ h1))) (ev_v 2) (ev_v 5) (insF_get hnl)))) (fun hn H5 e5 => ?_) (fun hn H5 e5 => ?_)
        · refine q_asg ev_c fun H6 e6 => ?_
          refine q_forR1 (n := (size : Int)) (ea_cons (ev_v 0) ea_nil) (by omega) (fun y σ H' => Ex H1 H' ∧ ∃ v5 v6 v7, σ = [some (.int size), some (.ref p), some (.ref r), some (.int m), some (.int x), some (.int (m ^^^ (1 <<< x) : Nat)), some (.int (ansF size ms (m ^^^ (1 <<< x)) x y : Nat)), v5, v6, v7]) (fun H7 e7 => ⟨e3.trans (e4.trans (e5.trans (e6.trans e7))), _, _, _, rfl⟩) ?_ ?_
          · rintro y σ H' hy ⟨e7, v5, v6, v7, rfl⟩
            have hys : y < size := by omega
            refine s_if (b := !decide (y = x) && decide (((m ^^^ (1 <<< x)) ^^^ (1 <<< y)) ∈ ms)) (et_and (et_test (ev_n (ev_v 7) (ev_v 4))) fun _ => et_B (ev_ix (sq_of (e7 _ _ h1)) (ev_v 2) (ev_n (ev_v 5) (ev_nc ev_c (ev_v 7) ⟨by decide, by omega⟩)) (insF_get (xor_lt_sh hnl (one_lt_sh hys))))) (fun hb H8 e8 => ?_) (fun hb H8 e8 => ?_)
            · refine s_augN (ev_nc ev_c (ev_v 7) ⟨by decide, by omega⟩) fun H9 e9 => ⟨e7.trans (e8.trans e9), some (.int (y : Nat)), v6, v7, ?_⟩
              rw [ansF, if_pos hb]
              rfl
            · refine ⟨e7.trans e8, some (.int (y : Nat)), v6, v7, ?_⟩
              rw [ansF, if_neg (by rw [hb]; decide)]
              rfl
          · rintro σ H' ⟨e7, v5, v6, v7, rfl⟩
            refine s_forLN (ev_v 1) hs (e1.trans e7) (fun j σ H' => Ex H1 H' ∧ (∀ g ∈ ms.take j, badF size ms m x g = false) ∧ ∃ v5 v6 v7, σ = [some (.int size), some (.ref p), some (.ref r), some (.int m), some (.int x), some (.int (m ^^^ (1 <<< x) : Nat)), some (.int (ansF size ms (m ^^^ (1 <<< x)) x size : Nat)), v5, v6, v7]) (fun H8 e8 => ⟨e7.trans e8, by simp, _, _, _, rfl⟩) (fun i σ H' h => e1.trans h.1) ?_ ?_
            · rintro j g σ H' hg2 ⟨e8, hgj, v5, v6, v7, rfl⟩
              refine q_asg (ev_n (ev_v 3) (ev_v 8)) fun H9 e9 => ?_
              refine s_if (b := decide (((m ^^^ g) >>> x) &&& 1 = 1) && decide ((m ^^^ g) &&& ansF size ms (m ^^^ (1 <<< x)) x size = 0)) (et_and (et_test (ev_n (ev_n (ev_n (ev_v 9) (ev_v 4)) ev_c) ev_c)) fun _ => et_test (ev_n (ev_n (ev_v 9) (ev_v 6)) ev_c)) (fun hb H10 e10 => ?_) (fun hb H10 e10 => ?_)
              · refine s_retL (el_lst (ea_cons (ev_v 3) (ea_cons (ev_v 8) (ea_cons (ev_v 4) ea_nil))) (by decide : 3 ≤ 100000)) fun l H11 hl e11 h11 => ?_
                have ee := e1.trans (e8.trans (e9.trans e10))
                refine q2 (fun hG => ?_) _ _ _ l H11 (fresh_back ee hl) (ee.trans e11) h11
                have h1 := hG m (List.mem_of_getElem? hm) x hxs g (List.mem_of_getElem? hg2)
                unfold badF at h1
                rw [hn, hb] at h1
                cases h1
              · refine ⟨e8.trans (e9.trans e10), fun g' hg' => ?_, _, _, _, rfl⟩
                rw [List.take_add_one, hg2, Option.toList_some] at hg'
                rcases List.mem_append.mp hg' with h | h
                · exact hgj g' h
                · rw [List.mem_singleton.mp h]
                  unfold badF
                  rw [hb, Bool.and_false]
            · rintro σ H' ⟨e8, hgj, v5, v6, v7, rfl⟩
              rw [List.take_length] at hgj
              refine ⟨e8, fun y hy => ?_, _, _, _, _, _, _, rfl⟩
              rcases Nat.lt_succ_iff_lt_or_eq.mp hy with h | h
              · exact hgx y h
              · rw [h]; exact hgj
        · refine ⟨e3.trans (e4.trans e5), fun y hy g hg2 => ?_, _, _, _, _, _, _, rfl⟩
          rcases Nat.lt_succ_iff_lt_or_eq.mp hy with h | h
          · exact hgx y h g hg2
          · rw [h]
            unfold badF
            rw [hn, Bool.false_and]
      · rintro σ H' ⟨e3, hgx, v2, v3, v4, v5, v6, v7, rfl⟩
        refine ⟨e3, fun m' hm' => ?_, _, _, _, _, _, _, _, rfl⟩
        rw [List.take_add_one, hm, Option.toList_some] at hm'
        rcases List.mem_append.mp hm' with h | h
        · exact hg m' h
        · rw [List.mem_singleton.mp h]; exact hgx
    · rintro σ H' ⟨e2, hg, v1, v2, v3, v4, v5, v6, v7, rfl⟩
      rw [List.take_length] at hg
      refine s_retL (el_lst ea_nil (by decide)) fun l H11 hl e11 h11 => q1 hg l H11 (fresh_back (e1.trans e2) hl) ((e1.trans e2).trans e11) h11
end
end W7
end
section
namespace W7
open PySem PySem.Spec PyProof.Rows L2 L3 Evl
open C8 (Cal pe_c Mak pe_mk Met pe_mt pe_mt0)
def Good (size : Nat) (ms : List Nat) : Prop := ms.Pairwise (· < ·) ∧ ∀ m ∈ ms, m < 1 <<< size
theorem good_list {bs : List Bool} {size : Nat} (h : bs.length = 1 <<< size) : Good size (listF bs) := by
  unfold listF
  refine ⟨List.Pairwise.filter _ List.pairwise_lt_range, fun m hm => ?_⟩
  rw [← h]
  exact List.mem_range.mp (List.mem_filter.mp hm).1
theorem asc_len {n : Nat} : ∀ (ms : List Nat) (lo : Nat), ms.Pairwise (· < ·) → (∀ m ∈ ms, lo ≤ m) → (∀ m ∈ ms, m < n) → ms.length ≤ n - lo
  | [], _, _, _, _ => by simp
  | m :: ms, lo, h, h1, h2 => by
    rw [List.pairwise_cons] at h
    have := asc_len ms (m + 1) h.2 (fun x hx => h.1 x hx) (fun x hx => h2 x (List.mem_cons_of_mem _ hx))
    have h3 := h1 m List.mem_cons_self
    have h4 := h2 m List.mem_cons_self
    rw [List.length_cons]
    omega
theorem good_len {size : Nat} {ms : List Nat} (g : Good size ms) (h : size ≤ 6) : ms.length ≤ 64 := by
  have h64 := pow64 h
  have := asc_len ms 0 g.1 (fun _ _ => Nat.zero_le _) g.2
  omega
theorem good_sized {size low tp : Nat} : Good size (sizedF size low tp) := by
  unfold sizedF
  refine ⟨List.Pairwise.filter _ List.pairwise_lt_range, fun m hm => List.mem_range.mp (List.mem_filter.mp hm).1⟩
theorem good_join {size : Nat} {ms os : List Nat} : Good size (joinF size ms os) := good_list (by simp)
theorem good_pair {size : Nat} {ls : List (Nat × Nat)} : Good size (pairF size ls) := good_list (by
  rw [pairRow_len]
  have : 1 ≤ 1 <<< size := by rw [Nat.one_shiftLeft]; exact Nat.one_le_two_pow
  omega)
theorem xor_inj {a b t : Nat} (h : a ^^^ t = b ^^^ t) : a = b := by
  have := congrArg (· ^^^ t) h
  simpa [Nat.xor_assoc] using this
theorem good_turn {size t : Nat} {ms M : List Nat} (g : Good size ms) (ht : t < 1 <<< size) (h1 : M.Perm (ms.map fun m => m ^^^ t)) (h2 : M.Pairwise (· ≤ ·)) : Good size M := by
  have hn : M.Nodup := h1.nodup_iff.mpr (by
    refine List.Pairwise.map (R := (· ≠ ·)) _ (fun a b h e => h (xor_inj e)) (g.1.imp fun h => by omega))
  refine ⟨(h2.and hn).imp fun h => by omega, fun m hm => ?_⟩
  obtain ⟨a, ha, rfl⟩ := List.mem_map.mp (h1.mem_iff.mp hm)
  exact xor_lt_sh (g.2 a ha) ht
section
variable {P : Program} {w : World} {K : PySem.W.Frag} {mg : Str → Option Value} {base : Heap} {f : Addr} {fd : FuncData}
def spMade : Sp := fun vs H Q _ => ∃ (a : Addr) (size : Nat), vs = [.ref a, .int size] ∧ 1 ≤ size ∧ size ≤ 5 ∧ DrawsAt H a ∧ ∀ (ms : List Nat) p H', Good size ms → p ≠ a → SB a H H' → H' p = some (.lst (nv ms)) → Q (.ref p) H'
theorem sc_law_made : FnScope ["_law_draws_here", "_law_size", "_law_word", "_law_low", "_law_top", "_law_masks", "_law_lot_here"] ["_law_draws_here", "_law_size"] (defScope (top 63)) := ⟨rfl, rfl, rfl, by decide +kernel, rfl, by decide +kernel, by decide +kernel⟩
theorem c_law_made (F : FnP K "_law_made" (top 63) f fd) (g : mg "_law_made" = some (.ref f)) (B : Bi mg) (c_law_take : Cal P w K mg base 1 "_law_take" spTake []) (c_law_sized : Cal P w K mg base 2 "_law_sized" spSized []) (c_law_web : Cal P w K mg base 2 "_law_web" spWeb []) (c_law_paired : Cal P w K mg base 2 "_law_paired" (spPaired K) []) (c_law_joined : Cal P w K mg base 2 "_law_joined" (spJoined K) []) : Cal P w K mg base 3 "_law_made" spMade [] := by
  refine mkCal F g sc_law_made (fun _ _ _ _ _ _ us hl => match us, hl with | [_, _], _ => rfl) (fun vs H Q E h => ?_) (fun cdv A outer s H vs Q E hr h => ?_)
  · obtain ⟨a, m, rfl, _⟩ := h
    rfl
  · obtain ⟨a, size, rfl, h1, h5, hd, q⟩ := h
    refine ⟨_, (pss_cons (ps_set (i := 2) sc_law_made.nd rfl (by first | exact Or.inl rfl | exact Or.inr rfl) (pe_c c_law_take hr (by decide) rfl (pa_cons (pv 0) (pa_cons (pe_nat 6 pe_int) pa_nil)))) (pss_cut (ps_if (PW.pt (pw_or (pt_cmpR on_eq (pv 2) (pe_nat 0 pe_int) (nomark _)) (pw_or1 (pt_cmpR on_eq (pv 2) (pe_nat 3 pe_int) (nomark _))))) (pss_cons (ps_set (i := 3) sc_law_made.nd rfl (by first | exact Or.inl rfl | exact Or.inr rfl) (pe_c c_law_take hr (by decide) rfl (pa_cons (pv 0) (pa_cons (pe_op on_add (pv 1) (pe_nat 1 pe_int)) pa_nil)))) (pss_cons (ps_set (i := 4) sc_law_made.nd rfl (by first | exact Or.inl rfl | exact Or.inr rfl) (pe_op on_add (pv 3) (pe_c c_law_take hr (by decide) rfl (pa_cons (pv 0) (pa_cons (pe_op on_sub (pe_op on_add (pv 1) (pe_nat 1 pe_int)) (pv 3)) pa_nil))))) (pss_one (ps_set (i := 5) sc_law_made.nd rfl (by first | exact Or.inl rfl | exact Or.inr rfl) (pe_c c_law_sized hr (by decide) rfl (pa_cons (pv 1) (pa_cons (pv 3) (pa_cons (pv 4) pa_nil)))))))) (pss_one (ps_set (i := 5) sc_law_made.nd rfl (by first | exact Or.inl rfl | exact Or.inr rfl) (pe_c c_law_paired hr (by decide) rfl (pa_cons (pv 1) (pa_cons (pe_c c_law_web hr (by decide) rfl (pa_cons (pv 0) (pa_cons (pv 1) pa_nil))) pa_nil)))))) (pss_cut (ps_if (pt_cmpR on_ge (pv 2) (pe_nat 4 pe_int) (nomark _)) (pss_cons (ps_set (i := 3) sc_law_made.nd rfl (by first | exact Or.inl rfl | exact Or.inr rfl) (pe_c c_law_take hr (by decide) rfl (pa_cons (pv 0) (pa_cons (pe_nat 2 pe_int) pa_nil)))) (pss_one (ps_set (i := 5) sc_law_made.nd rfl (by first | exact Or.inl rfl | exact Or.inr rfl) (pe_c c_law_joined hr (by decide) rfl (pa_cons (pv 1) (pa_cons (pv 5) (pa_cons (pe_c c_law_sized hr (by decide) rfl (pa_cons (pv 1) (pa_cons (pv 3) (pa_cons (pe_nat 1 pe_int) pa_nil)))) pa_nil))))))) pss_nil) (pss_cut (ps_if (pt_cmpR on_eq (pv 2) (pe_nat 3 pe_int) (nomark _)) (pss_cons (ps_set (i := 6) sc_law_made.nd rfl (by first | exact Or.inl rfl | exact Or.inr rfl) (pe_op on_and (pe_c c_law_take hr (by decide) rfl (pa_cons (pv 0) (pa_cons (pe_nat 24 pe_int) pa_nil))) (pe_op on_sub (pe_op on_shl (pe_nat 1 pe_int) (pv 1)) (pe_nat 1 pe_int)))) (pss_one (ps_set (i := 5) sc_law_made.nd rfl (by first | exact Or.inl rfl | exact Or.inr rfl) (pe_c c_law_joined hr (by decide) rfl (pa_cons (pv 1) (pa_cons (pv 5) (pa_cons (pe_lst (pa_cons (pe_nat 0 pe_int) (pa_cons (pv 6) pa_nil))) pa_nil))))))) pss_nil) (pss_one (ps_ret (pv 5))))))), ?_⟩
    refine r_asg (a := a) hd (er_take 0 er_c (by rintro n rfl; decide)) fun word H1 _ s1 => ?_
    refine q_cut (M := fun σ H' => SB a H H' ∧ ∃ p ms v3 v4 v6, Good size ms ∧ p ≠ a ∧ H' p = some (.lst (nv ms)) ∧ σ = [some (.ref a), some (.int size), some (.int word), v3, v4, some (.ref p), v6]) ?_ ?_
    · refine s_if (et_or (et_test (ev_n (ev_v 2) ev_c)) fun _ => et_test (ev_n (ev_v 2) ev_c)) (fun hb H2 e2 => ?_) (fun hb H2 e2 => ?_)
      · refine r_asg (a := a) (s1.dr.ex e2) (er_take 0 (er_n (er_v 1) er_c) (by rintro n ⟨x, y, rfl, rfl, rfl⟩; omega)) fun low H3 hlow s3 => ?_
        have hlow : low < size + 1 := by
          obtain ⟨_, ⟨x, y, rfl, rfl, rfl⟩, h⟩ := hlow
          exact h
        refine r_asg (a := a) s3.dr (er_n (er_v 3) (er_take 0 (er_nc (er_n (er_v 1) er_c) (er_v 3) (by rintro x y ⟨x, y, rfl, rfl, rfl⟩ rfl; omega)) (by rintro n ⟨x, y, ⟨x, y, rfl, rfl, rfl⟩, rfl, rfl⟩; omega))) fun tp H4 _ s4 => ?_
        refine s_asgL (el_call (ea_cons (ev_v 1) (ea_cons (ev_v 3) (ea_cons (ev_v 4) ea_nil))) (fun H2 e2 Q2 q2 E2 => ⟨size, low, tp, rfl, by omega, q2⟩)) fun p H5 hp e5 h5 => ?_
        exact ⟨((s1.ex e2).trans s3).trans (s4.ex e5), p, _, _, _, _, good_sized, SB.ne s4.dr hp, h5, rfl⟩
      · refine ⟨.int size, rfl, .ref a, rfl, .int size, rfl, a, size, rfl, h1, h5, s1.dr.ex e2, fun ls p H3 ok hp s3 hL => ⟨size, p, ls, rfl, hL, ok, h5, fun l H4 hl e4 h4 => ?_⟩⟩
        exact ⟨(s1.ex e2).trans (s3.ex e4), l, _, _, _, _, good_pair, SB.ne s3.dr hl, h4, rfl⟩
    · rintro σ H2 ⟨s2, p, ms, v3, v4, v6, gm, hpa, hp, rfl⟩
      refine q_cut (M := fun σ H' => SB a H H' ∧ ∃ p ms v3 v4 v6, Good size ms ∧ p ≠ a ∧ H' p = some (.lst (nv ms)) ∧ σ = [some (.ref a), some (.int size), some (.int word), v3, v4, some (.ref p), v6]) ?_ ?_
      · refine s_when (et_test (ev_n (ev_v 2) ev_c)) (fun hb H3 e3 => ?_) (fun hb H3 e3 => ⟨s2.ex e3, p, ms, _, _, _, gm, hpa, e3 _ _ hp, rfl⟩)
        refine r_asg (a := a) (s2.dr.ex e3) (er_take 0 er_c (by rintro n rfl; decide)) fun low H4 hlow s4 => ?_
        have hp4 := s4.kp _ _ hpa (e3 _ _ hp)
        have e0 : EvL (tCall (spJoined K) [] E0 (tCons (tVar 1) (tCons (tVar 5) (tCons (tCall spSized [] E0 (tCons (tVar 1) (tCons (tVar 3) (tCons (tC (.int ((1 : Nat) : Int))) tNil)))) tNil)))) [some (.ref a), some (.int size), some (.int word), some (.int low), v4, some (.ref p), v6] H4 (nv (joinF size ms (sizedF size low 1))) := fun H5 e5 Q5 q5 => by
          refine ⟨.int size, rfl, .ref p, rfl, .int size, rfl, .int low, rfl, size, low, 1, rfl, by omega, fun l H6 hl e6 h6 => ?_⟩
          exact ⟨size, p, l, ms, _, rfl, sq_of (e6 _ _ (e5 _ _ hp4)), sq_of h6, by omega, gm.2, good_sized.2, fun r H7 hr7 e7 h7 => q5 r H7 (fresh_back e6 hr7) (e6.trans e7) h7⟩
        refine s_asgL e0 fun r H5 hr5 e5 h5 => ?_
        exact ⟨(s2.ex e3).trans (s4.ex e5), r, _, _, _, _, good_join, SB.ne s4.dr hr5, h5, rfl⟩
      · rintro σ H3 ⟨s3, p, ms, v3, v4, v6, gm, hpa, hp, rfl⟩
        refine q_cut (M := fun σ H' => SB a H H' ∧ ∃ p ms v3 v4 v6, Good size ms ∧ p ≠ a ∧ H' p = some (.lst (nv ms)) ∧ σ = [some (.ref a), some (.int size), some (.int word), v3, v4, some (.ref p), v6]) ?_ ?_
        · refine s_when (et_test (ev_n (ev_v 2) ev_c)) (fun hb H4 e4 => ?_) (fun hb H4 e4 => ⟨s3.ex e4, p, ms, _, _, _, gm, hpa, e4 _ _ hp, rfl⟩)
          have h64 := pow64 (n := size) (by omega)
          have hpos : 1 ≤ 1 <<< size := by rw [Nat.one_shiftLeft]; exact Nat.one_le_two_pow
          refine r_asg (a := a) (s3.dr.ex e4) (er_n (er_take 0 er_c (by rintro n rfl; decide)) (er_nc (er_nc er_c (er_v 1) (by rintro x y rfl rfl; omega)) er_c (by rintro x y ⟨x, y, rfl, rfl, rfl⟩ rfl; exact hpos))) fun lot H5 hlot s5 => ?_
          have hlot : lot < 1 <<< size := by
            obtain ⟨x, y, _, ⟨_, _, ⟨_, _, rfl, rfl, rfl⟩, rfl, rfl⟩, rfl⟩ := hlot
            exact Nat.lt_of_le_of_lt Nat.and_le_right (by omega)
          have hp5 := s5.kp _ _ hpa (e4 _ _ hp)
          have e0 : EvL (tCall (spJoined K) [] E0 (tCons (tVar 1) (tCons (tVar 5) (tCons (tLst (tCons (tC (.int ((0 : Nat) : Int))) (tCons (tVar 6) tNil))) tNil)))) [some (.ref a), some (.int size), some (.int word), v3, v4, some (.ref p), some (.int lot)] H5 (nv (joinF size ms [0, lot])) := fun H6 e6 Q6 q6 => by
            refine ⟨.int size, rfl, .ref p, rfl, .int lot, rfl, (by decide : 2 ≤ sizeLine), fun l hl => ?_⟩
            exact ⟨size, p, l, ms, [0, lot], rfl, sq_of (Ex.new hl _ _ (e6 _ _ hp5)), sq_of upd_same, by omega, gm.2, by simp; omega, fun r H7 hr7 e7 h7 => q6 r H7 (fresh_back (Ex.new hl) hr7) ((Ex.new hl).trans e7) h7⟩
          refine s_asgL e0 fun r H6 hr6 e6 h6 => ?_
          exact ⟨(s3.ex e4).trans (s5.ex e6), r, _, _, _, _, good_join, SB.ne s5.dr hr6, h6, rfl⟩
        · rintro σ H4 ⟨s4, p, ms, v3, v4, v6, gm, hpa, hp, rfl⟩
          exact s_ret (ev_v 5) fun H5 e5 => q ms p H5 gm hpa (s4.ex e5) (e5 _ _ hp)
end
end W7
end
section
namespace W7
open PySem PySem.Spec PyProof.Rows L2 L3 Evl
open C8 (Cal pe_c Mak pe_mk Met pe_mt pe_mt0)
section
variable {K : PySem.W.Frag} {σ : L2.St} {H H' H1 H2 : Hp} {a : Addr} {ta tb tc te tl tm : TE} {v : V} {t : TT} {D : Ends} {tz : TS}
def rMin2 : List V → Hp → VK → Prop := fun xs H Q => ∃ i j, xs = [.int i, .int j] ∧ Q (.int (if j < i then j else i)) H
theorem ev_min2N {x y : Nat} (ha : Ev ta σ H (.int (x : Nat))) (hb : Ev tb σ H (.int (y : Nat))) : Ev (tCB rMin2 (tCons ta (tCons tb tNil))) σ H (.int ((min x y : Nat) : Int)) := fun H1 e Q q =>
  ha H1 e _ fun H2 e2 => hb H2 (e.trans e2) _ fun H3 e3 => ⟨x, y, rfl, by
    have h : (if (y : Int) < (x : Int) then (y : Int) else (x : Int)) = ((min x y : Nat) : Int) := by
      split <;> omega
    rw [h]
    exact q H3 (e2.trans e3)⟩
theorem nv_at {ns : List Nat} {i : Nat} (h : i < ns.length) : (nv ns)[i]? = some (.int (ns.getD i 0 : Nat)) := by
  unfold nv
  rw [List.getElem?_map, List.getD, (List.getElem?_eq_some_iff.mpr ⟨h, rfl⟩ : ns[i]? = some ns[i])]
  rfl
/-- number & (1 << size) - 1 -/
theorem er_mask {size : Nat} {p : Nat → Prop} (i : Nat) (hz : size ≤ 6) (h : EvR a ta σ p) (hi : σ[i]? = some (some (.int (size : Nat))) := by rfl) :
    EvR a (tOp (rN0 fun x y => .int ((x &&& y : Nat) : Int)) ta (tOp (rN (fun a b => b ≤ a) fun a b => .int ((a - b : Nat) : Int)) (tOp (rN (fun a b => a < 64 ∧ b < 64) fun a b => .int ((a <<< b : Nat) : Int)) (tC (.int ((1 : Nat) : Int))) (tVar i)) (tC (.int ((1 : Nat) : Int))))) σ (fun n => n < 1 <<< size) := by
  have hpos : 1 ≤ 1 <<< size := by rw [Nat.one_shiftLeft]; exact Nat.one_le_two_pow
  refine er_w (er_n h (er_nc (er_nc er_c (er_v i hi) (by rintro x y rfl rfl; omega)) er_c (by rintro x y ⟨x, y, rfl, rfl, rfl⟩ rfl; exact hpos))) fun n hn => ?_
  obtain ⟨x, y, _, ⟨_, _, ⟨_, _, rfl, rfl, rfl⟩, rfl, rfl⟩, rfl⟩ := hn
  exact Nat.lt_of_le_of_lt Nat.and_le_right (by omega)
theorem er_two {c : Nat} (hc : 0 < c) (i : Nat) (hi : σ[i]? = some (some (.ref a)) := by rfl) : EvR a (tOp (rN0 fun x y => .int ((x + y : Nat) : Int)) (tCall spTake [] E0 (tCons (tVar i) (tCons (tC (.int ((24 : Nat) : Int))) tNil))) (tOp (rN (fun a b => a < 2 ^ 64) fun x y => .int ((x * y : Nat) : Int)) (tC (.int ((24 : Nat) : Int))) (tCall spTake [] E0 (tCons (tVar i) (tCons (tC (.int ((c : Nat) : Int))) tNil))))) σ (fun _ => True) :=
  er_w (er_n (er_take i er_c (by rintro n rfl; decide) hi) (er_nc er_c (er_take i er_c (by rintro n rfl; exact hc) hi) (by rintro x y rfl _; decide))) fun _ _ => trivial
theorem SB.upd {r : Addr} {o : HO} (s : SB a H H') (hr : H r = none) (ha : r ≠ a) : SB a H (upd H' r o) := ⟨fun c u hc hu => by rw [upd_ne (fun e => by rw [e, hr] at hu; cases hu)]; exact s.kp c u hc hu, s.dr.elim fun xs z => ⟨xs, by rw [upd_ne (fun e => ha e.symm)]; exact z⟩⟩
end
section
variable {P : Program} {w : World} {K : PySem.W.Frag} {mg : Str → Option Value} {base : Heap} {f : Addr} {fd : FuncData}
def spFamily (R : Nat → List Nat → Prop) : Sp := fun vs H Q _ => ∃ (a : Addr) (mo : Nat), vs = [.ref a, .int (mo : Nat)] ∧ 1 ≤ mo ∧ mo ≤ 5 ∧ DrawsAt H a ∧ ∀ (size : Nat) (ms : List Nat) p pm H', 1 ≤ size → size ≤ mo → Good size ms → ms ≠ [] → R size ms → p ≠ a → pm ≠ a → SB a H H' → H' p = some (.lst [.int size, .ref pm]) → H' pm = some (.lst (nv ms)) → Q (.ref p) H'
theorem sc_law_family : FnScope ["_law_draws_here", "_law_most", "_law_size", "_law_word", "_law_masks", "_law_row", "_law_k", "_law_number_here", "_law_lot_here"] ["_law_draws_here", "_law_most"] (defScope (top 64)) := ⟨rfl, rfl, rfl, by decide +kernel, rfl, by decide +kernel, by decide +kernel⟩
theorem c_law_family (F : FnP K "_law_family" (top 64) f fd) (g : mg "_law_family" = some (.ref f)) (B : Bi mg) (c_law_take : Cal P w K mg base 1 "_law_take" spTake []) (c_law_made : Cal P w K mg base 3 "_law_made" spMade []) (c_law_inside : Cal P w K mg base 1 "_law_inside" (spIns K) []) (c_law_listed : Cal P w K mg base 1 "_law_listed" (spListed K) []) (c_law_turned : Cal P w K mg base 1 "_law_turned" (spTurned K) []) : Cal P w K mg base 4 "_law_family" (spFamily fun _ _ => True) [] := by
  refine mkCal F g sc_law_family (fun _ _ _ _ _ _ us hl => match us, hl with | [_, _], _ => rfl) (fun vs H Q E h => ?_) (fun cdv A outer s H vs Q E hr h => ?_)
  · obtain ⟨a, mo, rfl, _⟩ := h
    rfl
  · obtain ⟨a, mo, rfl, hm1, hm5, hd, q⟩ := h
    refine ⟨_, (pss_cons (ps_set (i := 2) sc_law_family.nd rfl (by first | exact Or.inl rfl | exact Or.inr rfl) (pe_op on_add (pe_nat 1 pe_int) (pe_ix (on_ix (K := K)) (pe_lst (pa_cons (pe_nat 2 pe_int) (pa_cons (pe_nat 1 pe_int) (pa_cons (pe_nat 3 pe_int) (pa_cons (pe_nat 2 pe_int) (pa_cons (pe_nat 4 pe_int) (pa_cons (pe_nat 3 pe_int) (pa_cons (pe_nat 0 pe_int) (pa_cons (pe_nat 5 pe_int) pa_nil))))))))) (pe_c c_law_take hr (by decide) rfl (pa_cons (pv 0) (pa_cons (pe_nat 8 pe_int) pa_nil))) (fun _ _ => rfl)))) (pss_cons (ps_set (i := 2) sc_law_family.nd rfl (by first | exact Or.inl rfl | exact Or.inr rfl) (pe_callB (call_min2 rfl) (by rfl) B.min (by decide +kernel) (pa_cons (pv 2) (pa_cons (pv 1) pa_nil)))) (pss_cons (ps_set (i := 3) sc_law_family.nd rfl (by first | exact Or.inl rfl | exact Or.inr rfl) (pe_c c_law_take hr (by decide) rfl (pa_cons (pv 0) (pa_cons (pe_nat 6 pe_int) pa_nil)))) (pss_cons (ps_set (i := 4) sc_law_family.nd rfl (by first | exact Or.inl rfl | exact Or.inr rfl) (pe_c c_law_made hr (by decide) rfl (pa_cons (pv 0) (pa_cons (pv 2) pa_nil)))) (pss_cut (ps_if (pt_cmpR on_ge (pv 3) (pe_nat 4 pe_int) (nomark _)) (pss_cons (ps_set (i := 5) sc_law_family.nd rfl (by first | exact Or.inl rfl | exact Or.inr rfl) (pe_c c_law_inside hr (by decide) rfl (pa_cons (pv 2) (pa_cons (pv 4) pa_nil)))) (pss_cons (ps_for PassesOwn.never rfl (pi_range1 rfl B.range (pa_cons (pe_op on_add (pe_nat 1 pe_int) (pe_op on_mul (pe_op on_sub (pv 3) (pe_nat 4 pe_int)) (pe_nat 3 pe_int))) pa_nil)) (pg_name (i := 6) sc_law_family.nd rfl (by first | exact Or.inl rfl | exact Or.inr rfl)) (pss_cons (ps_set (i := 7) sc_law_family.nd rfl (by first | exact Or.inl rfl | exact Or.inr rfl) (pe_op on_and (pe_op on_add (pe_c c_law_take hr (by decide) rfl (pa_cons (pv 0) (pa_cons (pe_nat 24 pe_int) pa_nil))) (pe_op on_mul (pe_nat 24 pe_int) (pe_c c_law_take hr (by decide) rfl (pa_cons (pv 0) (pa_cons (pe_nat 3 pe_int) pa_nil))))) (pe_op on_sub (pe_op on_shl (pe_nat 1 pe_int) (pv 2)) (pe_nat 1 pe_int)))) (pss_one (ps_asg (pe_not (pe_ix (on_ix (K := K)) (pv 5) (pv 7) (fun _ _ => rfl))) (pg_sub (pv 5) (pv 7) set_list))))) (pss_one (ps_set (i := 4) sc_law_family.nd rfl (by first | exact Or.inl rfl | exact Or.inr rfl) (pe_c c_law_listed hr (by decide) rfl (pa_cons (pv 5) pa_nil)))))) pss_nil) (pss_cons (ps_set (i := 8) sc_law_family.nd rfl (by first | exact Or.inl rfl | exact Or.inr rfl) (pe_op on_and (pe_op on_add (pe_c c_law_take hr (by decide) rfl (pa_cons (pv 0) (pa_cons (pe_nat 24 pe_int) pa_nil))) (pe_op on_mul (pe_nat 24 pe_int) (pe_c c_law_take hr (by decide) rfl (pa_cons (pv 0) (pa_cons (pe_nat 3 pe_int) pa_nil))))) (pe_op on_sub (pe_op on_shl (pe_nat 1 pe_int) (pv 2)) (pe_nat 1 pe_int)))) (pss_cons (ps_set (i := 4) sc_law_family.nd rfl (by first | exact Or.inl rfl | exact Or.inr rfl) (pe_c c_law_turned hr (by decide) rfl (pa_cons (pv 4) (pa_cons (pv 8) pa_nil)))) (pss_cut (ps_if (pt_cmpR on_eq (pe_callB call_len_seq (by rfl) B.len (by decide +kernel) (pa_cons (pv 4) pa_nil)) (pe_nat 0 pe_int) (nomark _)) (pss_one (ps_set (i := 4) sc_law_family.nd rfl (by first | exact Or.inl rfl | exact Or.inr rfl) (pe_lst (pa_cons (pv 8) pa_nil)))) pss_nil) (pss_one (ps_ret (pe_lst (pa_cons (pv 2) (pa_cons (pv 4) pa_nil))))))))))))), ?_⟩
    refine ⟨(by decide : 8 ≤ sizeLine), fun l hl => ⟨.ref a, rfl, a, 8, rfl, by decide, hd.ex (Ex.new hl), fun r H1 hr s1 => ?_⟩⟩
    have s1 : SB a H H1 := (SB.of hd (Ex.new hl)).trans s1
    have hl1 : H1 l = some (.lst (nv [2, 1, 3, 2, 4, 3, 0, 5])) := ‹SB a (upd H l _) H1›.kp _ _ (SB.ne hd hl) upd_same
    refine ⟨l, nv [2, 1, 3, 2, 4, 3, 0, 5], r, .int ([2, 1, 3, 2, 4, 3, 0, 5].getD r 0 : Nat), rfl, rfl, sq_of hl1, nv_at hr, 1, [2, 1, 3, 2, 4, 3, 0, 5].getD r 0, rfl, rfl, ?_⟩
    refine q_asg (ev_min2N (ev_v 2) (ev_v 1)) fun H2 e2 => ?_
    have s2 := s1.ex e2
    generalize hsz : min (1 + [2, 1, 3, 2, 4, 3, 0, 5].getD r 0) mo = size
    have z1 : 1 ≤ size := by omega
    have z5 : size ≤ 5 := by omega
    have zm : size ≤ mo := by omega
    clear hsz
    have h64 := pow64 (n := size) (by omega)
    refine r_asg (a := a) s2.dr (er_take 0 er_c (by rintro n rfl; decide)) fun word H3 hw s3 => ?_
    have hw : word < 6 := by obtain ⟨_, rfl, h⟩ := hw; exact h
    refine ⟨.ref a, rfl, .int size, rfl, a, size, rfl, z1, z5, s3.dr, fun ms p H4 gm hpa s4 hp => ?_⟩
    have s4 := (s2.trans s3).trans s4
    refine q_cut (M := fun σ H' => SB a H H' ∧ ∃ p ms v5 v6 v7, Good size ms ∧ p ≠ a ∧ H' p = some (.lst (nv ms)) ∧ σ = [some (.ref a), some (.int (mo : Nat)), some (.int size), some (.int word), some (.ref p), v5, v6, v7, none]) ?_ ?_
    · refine s_when (et_test (ev_n (ev_v 3) ev_c)) (fun hb H5 e5 => ?_) (fun hb H5 e5 => ⟨s4.ex e5, p, ms, _, _, _, gm, hpa, e5 _ _ hp, rfl⟩)
      have hb : 4 ≤ word := of_decide_eq_true hb
      have s5 := s4.ex e5
      refine q_asgL (el_call (ea_cons (ev_v 2) (ea_cons (ev_v 4) ea_nil)) (fun H6 e6 Q6 q6 E6 => ⟨size, p, ms, rfl, sq_of (e6 _ _ (e5 _ _ hp)), by omega, gm.2, q6⟩)) fun r H6 hr6 e6 h6 => ?_
      have s6 := s5.ex e6
      have hra := SB.ne s5.dr hr6
      have hrH : H r = none := by
        cases h : H r with
        | none => rfl
        | some o => have := s5.kp _ _ hra h; rw [hr6] at this; cases this
      refine q_forR1 (n := ((1 + (word - 4) * 3 : Nat) : Int)) (ea_cons (ev_n ev_c (ev_nc (ev_nc (ev_v 3) ev_c hb) ev_c (by omega))) ea_nil) (by omega) (fun i σ H' => SB a H H' ∧ ∃ bs : List Bool, bs.length = 1 <<< size ∧ H' r = some (.lst (bv bs)) ∧ ∃ v6 v7, σ = [some (.ref a), some (.int (mo : Nat)), some (.int size), some (.int word), some (.ref p), some (.ref r), v6, v7, none]) (fun H7 e7 => ⟨s6.ex e7, insF size ms, by unfold insF; simp, e7 _ _ h6, _, _, rfl⟩) ?_ ?_
      · rintro i σ H7 hi ⟨s7, bs, hbs, h7, v6, v7, rfl⟩
        refine r_asg (a := a) s7.dr (er_mask (size := size) 2 (by omega) (er_two (by decide) 0)) fun n H8 hn s8 => ?_
        have h8 := s8.kp _ _ hra h7
        refine s_setL h8 (ev_notV (ev_ix (sq_of h8) (ev_v 5) (ev_v 7) (bv_get (by omega)))) (ev_v 5) (ev_v 7) (by rw [bv_len]; omega) fun H9 e9 => ?_
        refine ⟨((s7.trans s8).ex e9).upd hrH hra, bs.set n (!bs.getD n false), by rw [List.length_set]; exact hbs, ?_, some (.int (i : Nat)), some (.int (n : Nat)), rfl⟩
        rw [upd_same]
        unfold bv
        rw [List.map_set]
      · rintro σ H7 ⟨s7, bs, hbs, h7, v6, v7, rfl⟩
        refine s_asgL (el_call (ea_cons (ev_v 5) ea_nil) (fun H8 e8 Q8 q8 E8 => ⟨r, bs, rfl, sq_of (e8 _ _ h7), by omega, q8⟩)) fun l H8 hl8 e8 h8 => ?_
        exact ⟨s7.ex e8, l, _, _, _, _, good_list hbs, SB.ne s7.dr hl8, h8, rfl⟩
    · rintro σ H5 ⟨s5, p, ms, v5, v6, v7, gm, hpa, hp, rfl⟩
      refine r_asg (a := a) s5.dr (er_mask (size := size) 2 (by omega) (er_two (by decide) 0)) fun lot H6 hlot s6 => ?_
      have s6' := s5.trans s6
      refine ⟨.ref p, rfl, .int lot, rfl, p, ms, lot, rfl, sq_of (s6.kp _ _ hpa hp), good_len gm (by omega), fun M m1 m2 l H7 hl7 e7 h7 => ?_⟩
      have gM := good_turn gm hlot m1 m2
      refine q_cut (M := fun σ H' => SB a H H' ∧ ∃ p ms v5 v6 v7 v8, Good size ms ∧ ms ≠ [] ∧ p ≠ a ∧ H' p = some (.lst (nv ms)) ∧ σ = [some (.ref a), some (.int (mo : Nat)), some (.int size), some (.int word), some (.ref p), v5, v6, v7, v8]) ?_ ?_
      · refine s_when (et_test (ev_n (ev_len (ev_v 4) (sq_of h7)) ev_c)) (fun hb H8 e8 => ?_) (fun hb H8 e8 => ?_)
        · refine s_asgL (el_lst (ea_cons (ev_v 8) ea_nil) (by decide : 1 ≤ 100000)) fun l2 H9 hl9 e9 h9 => ?_
          exact ⟨(s6'.ex e7).ex (e8.trans e9), l2, [lot], _, _, _, _, ⟨List.pairwise_singleton _ _, by simpa using hlot⟩, by simp, SB.ne ((s6'.ex e7).ex e8).dr hl9, h9, rfl⟩
        · refine ⟨(s6'.ex e7).ex e8, l, M, _, _, _, _, gM, ?_, SB.ne s6'.dr hl7, e8 _ _ h7, rfl⟩
          rintro rfl
          exact absurd hb (by decide)
      · rintro σ H8 ⟨s8, p, ms, v5, v6, v7, v8, gm, hne, hpa, hp, rfl⟩
        refine s_retL (el_lst (ea_cons (ev_v 2) (ea_cons (ev_v 4) ea_nil)) (by decide : 2 ≤ 100000)) fun l2 H9 hl9 e9 h9 => ?_
        exact q size ms l2 p H9 z1 zm gm hne trivial (SB.ne s8.dr hl9) hpa (s8.ex e9) h9 (e9 _ _ hp)
/-- webs' families are gated, turned and widened too -/
def PairGated : Prop := ∀ (size : Nat) (ls : List (Nat × Nat)) (lot : Nat) (M : List Nat), 1 ≤ size → size ≤ 5 → LinksOk size ls → lot < 1 <<< size → M.Perm ((pairF size ls).map fun m => m ^^^ lot) → M.Pairwise (· ≤ ·) →
  (GatedP size M ∧ M ≠ []) ∧ GatedP size (joinF size M (sizedF size 0 1)) ∧ joinF size M (sizedF size 0 1) ≠ []
end
end W7
end
section
namespace L3
open PySem PySem.Spec PyProof.Rows L2
section
variable {X : Cx}
/-- sorted(xs), ints, a list or a tuple -/
def rSortedA (K : PySem.W.Frag) : List V → Hp → VK → Prop := fun vs H Q => ∃ (a : Addr) (ns : List Int), vs = [V.ref a] ∧ (SqL K H a (ns.map V.int) ∨ SqT K H a (ns.map V.int)) ∧
  ∀ (is : List Int) (p : Addr), is.Perm ns → is.Pairwise (· ≤ ·) → H p = none → Q (.ref p) (upd H p (.lst (is.map V.int)))
theorem cr_sortedA : CallR X (.builtin "sorted") (rSortedA X.K) := by
  intro pins s σ H vs us Q I r ⟨a, ns, e, ha, q⟩
  subst e
  rw [Vals.ref1 r]
  refine sorted_inv (ltv := SrtO.ltIv) I SrtO.swo_int ha (fun its rv h2 _ _ _ _ => SrtO.ints_sortable (ints_of_vals rv) h2) fun its out rv so st => ?_
  obtain ⟨is_out, perm, up⟩ := SrtO.ints_out (ints_of_vals rv) so st
  exact ⟨_, vals_of_ints is_out, fun p => q _ p perm up⟩
end
/-! ### enumerate over a tuple -/
def IteT (K : PySem.W.Frag) (a : Addr) : It :=
  ⟨fun i H => ∃ (xs : List V) (x : V), SqT K H a xs ∧ xs[i]? = some x, fun i H v H' => ∃ T x, v = .ref T ∧ H T = none ∧ H' = upd H T (.tup [.int (i : Nat), x]) ∧ ∀ xs, SqT K H a xs → xs[i]? = some x, fun i H => ∃ xs : List V, SqT K H a xs ∧ xs.length = i⟩
/-- what stands at a tuple is known but for tokens -/
theorem sqT_same {X : Cx} {pins : List (Addr × Obj)} {σ : L2.St} {H : Hp} {s : Shared} {a : Addr} {xs : List V} {its : List Value} (I : Inv X pins σ H s) (rv : Vals xs its) (p : IsTup s.heap a its.toArray) {ys : List V} (h : SqT X.K H a ys) : ys = xs := by
  obtain ⟨its2, rv2, p2, _⟩ := I.tuple h
  obtain ⟨o, ho, _, n, hd⟩ := p
  obtain ⟨o2, ho2, _, n2, hd2⟩ := p2
  obtain rfl : o = o2 := Option.some.inj (ho.symm.trans ho2)
  have e : its.toArray = its2.toArray := by
    rw [hd] at hd2
    cases hd2
    rfl
  have e2 : its = its2 := by simpa using congrArg Array.toList e
  exact Vals.inj (e2 ▸ rv2) rv
theorem turn_enumT {P : Program} {w : World} {K : PySem.W.Frag} {elts : List Expr} {kk : Nat} {tpos : Pos} (a e it : Addr) :
    Turn P w K (.Tuple elts kk tpos) (IteT K a) [e, it] e (fun i h => (∃ old, IsEnum h e it ((i : Nat) : Int) old) ∧ h.IsTupleIter it a i ∧ e ≠ it) where
  mem := List.mem_cons_self
  obj := by
    rintro i h ⟨⟨old, he⟩, ⟨o, ho, _, hd⟩, _⟩ b hb
    obtain z | z := List.mem_cons.mp hb
    · exact ⟨_, z ▸ he, fun v z => by cases z⟩
    · refine ⟨o, (List.mem_singleton.mp z) ▸ ho, fun v z => ?_⟩
      rw [hd] at z
      cases z
  keep := by
    rintro i h h' ⟨⟨old, he⟩, ⟨o, ho, hc, hd⟩, ne⟩ k
    exact ⟨⟨old, k e List.mem_cons_self _ he⟩, ⟨o, k it (List.mem_cons_of_mem _ List.mem_cons_self) o ho, hc, hd⟩, ne⟩
  item := by
    intro X hP hw hK calm i pins s σ H E I fp ⟨⟨old, he⟩, ti, ne⟩ ⟨xs, x, hx, xi⟩
    subst hP hw hK
    obtain ⟨its, rv, tup, _⟩ := I.tuple hx
    obtain ⟨u, ui, ru⟩ := rv.get xi
    have lt : i < its.toArray.size := by simpa using (List.getElem?_eq_some_iff.mp ui).1
    have cls_a : ∃ o, s.heap.get? a = some o ∧ o.cls = .type "tuple" := by
      obtain ⟨o, ho, hc, _⟩ := tup
      exact ⟨o, ho, hc⟩
    have a_it : a ≠ it := by
      rintro rfl
      obtain ⟨o, ho, hc⟩ := cls_a
      obtain ⟨o2, ho2, hc2, _⟩ := ti
      rw [Option.some.inj (ho.symm.trans ho2), hc2] at hc
      exact absurd (Value.type.inj hc) (by decide)
    have a_e : e ≠ a := by
      rintro rfl
      obtain ⟨o, ho, hc⟩ := cls_a
      rw [← Option.some.inj (he.symm.trans ho)] at hc
      exact absurd (Value.type.inj hc) (by decide)
    have D := Draws.tuple (prog := X.prog) (w := X.w) (A := X.A.in1) (I.ok.hd calm) it a a_it its.toArray
    refine wpAny_pyNext_enum_itemD D he ⟨ti, tup⟩ lt ne (by simp [ne, a_e]) fun y h1 tk yi out ti1 new size keep => ⟨_, rfl, ?_⟩
    refine wpAny_letOwnedTupleGo_enum out fun h2 he2 b2 => ?_
    have yu : y = u := by
      have : its.toArray[i]? = some u := by simpa using ui
      exact Option.some.inj (yi.symm.trans this)
    have below : ∀ b ∈ [e, it], b < s.heap.objs.size := by
      intro b hb
      obtain z | z := List.mem_cons.mp hb
      · exact z ▸ Heap.lt_size he
      · obtain ⟨o, ho, _⟩ := ti
        exact (List.mem_singleton.mp z) ▸ Heap.lt_size ho
    have top_e : s.heap.objs.size ≠ e := Nat.ne_of_gt (below e List.mem_cons_self)
    have J : Inv X pins σ (upd H s.heap.objs.size (.tup [.int (i : Nat), x])) { s with heap := h2, toks := tk + 1 } := by
      refine I.turnedNew (ch := [e, it]) (fun b o nb hb => ?_) fp (Nat.le_refl _) ⟨by simp [sizeLine], [.int i tk, y], .cons ⟨_, rfl⟩ (.cons (yu ▸ ru) .nil), ⟨_, (b2.2 _ top_e).trans new, rfl, _, rfl⟩⟩
      have nb2 : b ≠ e ∧ b ≠ it := by simpa using nb
      exact (b2.2 b nb2.1).trans (keep b o nb2.1 nb2.2 hb)
    refine ⟨.ref s.heap.objs.size, _, J, rfl, ⟨_, x, rfl, I.hok.fresh (Nat.le_refl _), rfl, fun ys hy => ?_⟩, ⟨⟨y, ?_⟩, ?_, ne⟩, fun b hb => ?_⟩
    · rw [sqT_same I rv tup hy]; exact xi
    · have cast : ((i + 1 : Nat) : Int) = (i : Int) + 1 := by omega
      rw [cast]; exact he2
    · obtain ⟨⟨o, ho, hc, hd⟩, _⟩ := ti1
      exact ⟨o, (b2.2 it ne.symm).trans ho, hc, hd⟩
    · rw [upd_ne (Nat.ne_of_lt (below b hb))]
      exact (fp b hb).1
  done := by
    intro X hP hw hK calm i pins s σ H E I fp ⟨⟨old, he⟩, ti, ne⟩ ⟨xs, hx, len⟩
    subst hP hw hK
    obtain ⟨its, rv, tup, _⟩ := I.tuple hx
    have at_end : its.toArray.size = i := by
      rw [← len, rv.length]; simp
    have a_it : a ≠ it := by
      rintro rfl
      obtain ⟨o, ho, hc, _⟩ := tup
      obtain ⟨o2, ho2, hc2, _⟩ := ti
      rw [Option.some.inj (ho.symm.trans ho2), hc2] at hc
      exact absurd (Value.type.inj hc) (by decide)
    have D := Draws.tuple (prog := X.prog) (w := X.w) (A := X.A.in1) (I.ok.hd calm) it a a_it its.toArray
    refine wpAny_pyNext_enum_endD D he ⟨at_end ▸ ti, tup⟩ fun h' b => ⟨rfl, ?_⟩
    exact I.turnedL (t' := s.toks) (ch := [it]) (fun c o nc hc => b c o (by simpa using nc) hc) fun c hc => fp c (List.mem_cons_of_mem _ hc)
  self := by
    rintro A i s Q E ⟨⟨old, he⟩, _⟩ q
    exact wpAny_pyIter_enum he q
theorem wp_either {M : Model} {A : Around} {α : Type} {c : Prop} [Decidable c] {x y : Sem α} {Q : α → Shared → Prop} {E : Value → Shared → Prop} {s : Shared} (hx : wpAny M A x Q E s) (hy : wpAny M A y Q E s) : wpAny M A (if c then x else y) Q E s := by
  by_cases h : c
  · rw [if_pos h]; exact hx
  · rw [if_neg h]; exact hy
/-- enumerate(t), t a tuple: an iterator of t, and the enumerate object over it -/
theorem meets_enumerate_newT (t : Addr) (items : Array Value) : Meets (Builtin.«enumerate.__new__» ⟨[.type "enumerate", .ref t], []⟩) (fun _ R s => s.heap.IsTuple t items ∧ ∀ h' : Heap, IsEnum h' (s.heap.objs.size + 1) s.heap.objs.size 0 .none → h'.IsTupleIter s.heap.objs.size t 0 →
      (∀ b o, s.heap.get? b = some o → h'.get? b = some o) → R (.ok (.ret (.ref (s.heap.objs.size + 1)))) { s with heap := h' }) := by
  rintro prog w A R s ⟨ht, h⟩
  have cls : Builtin.SmallTypes.newClass "enumerate" ⟨[.type "enumerate", .ref t], []⟩ = pure (.type "enumerate", [.ref t]) := by kernel_rfl
  unfold Builtin.«enumerate.__new__»
  rw [cls]
  apply wpAny_bind (wpAny_pure _)
  dsimp only
  rw [if_pos (by decide)]
  refine wpAny_bind (wpAny_bind (wpAny_stack_any fun st => wpAny_pure ?_))
  have it_new := Heap.get?_push_size s.heap (o := { cls := .type "tuple_iterator", data := .fields #[.ref t, .int 0 0] }) rfl
  refine wp_either ?_ ?_ <;>
  · apply wpAny_bind (wpAny_pure _)
    refine wpAny_bind ((begins_tuple t items).iter prog w A.in1 _ s _ ht ?_)
    refine wpAny_bind ?_
    show wpAny (model prog w) A.in1 (newObj (.type "enumerate") (.fields #[.none, .bool false, .ref s.heap.objs.size, rawInt 0, .none, .none])) _ _ _
    refine wpAny_newObj_type (wpAny_pure ?_) (by simp [sizeOk, sizeLine])
    have it_old : ∀ ob, ((s.heap.push { cls := .type "tuple_iterator", data := .fields #[.ref t, .int 0 0] }).push ob).get? s.heap.objs.size = _ := fun ob => Heap.get?_push_of_some ob it_new
    have one_more : (s.heap.push { cls := .type "tuple_iterator", data := .fields #[.ref t, .int 0 0] }).objs.size = s.heap.objs.size + 1 := by simp [Heap.push]
    have e_new := Heap.get?_push_size (s.heap.push { cls := .type "tuple_iterator", data := .fields #[.ref t, .int 0 0] }) (o := { cls := .type "enumerate", data := .fields #[.none, .bool false, .ref s.heap.objs.size, rawInt 0, .none, .none] }) rfl
    rw [one_more] at e_new
    have out := h _ e_new ⟨_, it_old _, rfl, rfl⟩ fun b o e => Heap.get?_push_of_some _ (Heap.get?_push_of_some _ e)
    rw [← one_more] at out
    exact out
theorem call_enumerate_tup {prog : Program} {w : World} {A : Around} {E : Value → Shared → Prop} {s : Shared} {t : Addr} {items : Array Value} {Q : Value → Shared → Prop} (ht : s.heap.IsTuple t items)
    (h : ∀ h' : Heap, IsEnum h' (s.heap.objs.size + 1) s.heap.objs.size 0 .none → h'.IsTupleIter s.heap.objs.size t 0 → (∀ b o, s.heap.get? b = some o → h'.get? b = some o) → Q (.ref (s.heap.objs.size + 1)) { s with heap := h' }) :
    wpAny (model prog w) A (call (.type "enumerate") [.ref t]) Q E s :=
  callType_new PySem.F.called_enumerate (by decide) (PySem.F.typeCall_enumerate_1 _) (PySem.F.newCall_enumerate_1 _) (fun obj => PySem.F.initArgs_range_1 obj _) PySem.F.entry_enumerate_new (meets_enumerate_newT t items)
    ⟨ht, fun h' he hi keep => ⟨⟨_, he, rfl⟩, h h' he hi keep⟩⟩
/-- an iterator of n turns is walked to its end -/
theorem for_any {J : It} {n : Nat} {g : TG} {tb : TS} {D : Ends} {σ : L2.St} {H : Hp} (Pv : Nat → L2.St → Hp → Prop) (h0 : Pv 0 σ H) (hg : ∀ i σ H, i < n → Pv i σ H → J.go i H) (hz : ∀ σ H, Pv n σ H → J.stop n H)
    (hs : ∀ i x σ H H', i < n → Pv i σ H → J.yld i H x H' → g x σ H' fun σ2 H2 => tb { D with nx := Pv (i + 1), ct := Pv (i + 1), bk := D.nx } σ2 H2) (hd : ∀ σ H, Pv n σ H → D.nx σ H) :
    ∃ W : Nat → Nat → L2.St → Hp → Prop, (∃ m, W 0 m σ H) ∧ ∀ i m σ H, W i m σ H → (J.stop i H ∧ D.nx σ H) ∨
      (J.go i H ∧ ∃ N : L2.St → Hp → Prop, (∀ σ' H', N σ' H' → ∃ m', m' < m ∧ W (i + 1) m' σ' H') ∧ ∀ x H', J.yld i H x H' → g x σ H' fun σ2 H2 => tb { D with nx := N, ct := N, bk := D.nx } σ2 H2) := by
  refine ⟨fun i m σ H => i + m = n ∧ Pv i σ H, ⟨n, Nat.zero_add n, h0⟩, fun i m σ H w => ?_⟩
  obtain ⟨e, p⟩ := w
  cases m with
  | zero =>
    have e : i = n := e
    subst e
    exact Or.inl ⟨hz σ H p, hd σ H p⟩
  | succ m =>
    have lt : i < n := by omega
    exact Or.inr ⟨hg i σ H lt p, Pv (i + 1), fun σ' H' p' => ⟨m, Nat.lt_succ_self m, by omega, p'⟩, fun x H' y => hs i x σ H H' lt p y⟩
theorem get_some {xs : List V} {i : Nat} (h : i < xs.length) : ∃ x, xs[i]? = some x := ⟨_, List.getElem?_eq_getElem h⟩
theorem for_enumA {K : PySem.W.Frag} {a : Addr} {xs : List V} {g : TG} {tb : TS} {D : Ends} {σ : L2.St} {H : Hp} (Pv : Nat → L2.St → Hp → Prop) (h0 : Pv 0 σ H) (hl : ∀ i σ H, i ≤ xs.length → Pv i σ H → SqT K H a xs)
    (hs : ∀ i x σ H T, xs[i]? = some x → Pv i σ H → H T = none → g (.ref T) σ (upd H T (.tup [.int (i : Nat), x])) fun σ2 H2 => tb { D with nx := Pv (i + 1), ct := Pv (i + 1), bk := D.nx } σ2 H2) (hd : ∀ σ H, Pv xs.length σ H → D.nx σ H) :
    ∃ W : Nat → Nat → L2.St → Hp → Prop, (∃ m, W 0 m σ H) ∧ ∀ i m σ H, W i m σ H → ((IteT K a).stop i H ∧ D.nx σ H) ∨
      ((IteT K a).go i H ∧ ∃ N : L2.St → Hp → Prop, (∀ σ' H', N σ' H' → ∃ m', m' < m ∧ W (i + 1) m' σ' H') ∧ ∀ x H', (IteT K a).yld i H x H' → g x σ H' fun σ2 H2 => tb { D with nx := N, ct := N, bk := D.nx } σ2 H2) := by
  refine for_any (J := IteT K a) (n := xs.length) Pv h0 (fun i σ H lt p => ?_) (fun σ H p => ⟨xs, hl _ σ H (Nat.le_refl _) p, rfl⟩) (fun i v σ H H' lt p y => ?_) hd
  · obtain ⟨x, hx⟩ := get_some lt
    exact ⟨xs, x, hl i σ H (Nat.le_of_lt lt) p, hx⟩
  · obtain ⟨T, x, rfl, free, rfl, is⟩ := y
    exact hs i x σ H T (is xs (hl i σ H (Nat.le_of_lt lt) p)) p free
theorem for_enumL {K : PySem.W.Frag} {a : Addr} {xs : List V} {g : TG} {tb : TS} {D : Ends} {σ : L2.St} {H : Hp} (Pv : Nat → L2.St → Hp → Prop) (h0 : Pv 0 σ H) (hl : ∀ i σ H, i ≤ xs.length → Pv i σ H → SqL K H a xs)
    (hs : ∀ i x σ H T, xs[i]? = some x → Pv i σ H → H T = none → g (.ref T) σ (upd H T (.tup [.int (i : Nat), x])) fun σ2 H2 => tb { D with nx := Pv (i + 1), ct := Pv (i + 1), bk := D.nx } σ2 H2) (hd : ∀ σ H, Pv xs.length σ H → D.nx σ H) :
    ∃ W : Nat → Nat → L2.St → Hp → Prop, (∃ m, W 0 m σ H) ∧ ∀ i m σ H, W i m σ H → ((Ite K a).stop i H ∧ D.nx σ H) ∨
      ((Ite K a).go i H ∧ ∃ N : L2.St → Hp → Prop, (∀ σ' H', N σ' H' → ∃ m', m' < m ∧ W (i + 1) m' σ' H') ∧ ∀ x H', (Ite K a).yld i H x H' → g x σ H' fun σ2 H2 => tb { D with nx := N, ct := N, bk := D.nx } σ2 H2) := by
  refine for_any (J := Ite K a) (n := xs.length) Pv h0 (fun i σ H lt p => ?_) (fun σ H p => ⟨xs, hl _ σ H (Nat.le_refl _) p, Nat.le_refl _⟩) (fun i v σ H H' lt p y => ?_) hd
  · obtain ⟨x, hx⟩ := get_some lt
    exact ⟨xs, x, hl i σ H (Nat.le_of_lt lt) p, hx⟩
  · obtain ⟨T, x, rfl, free, rfl, is⟩ := y
    exact hs i x σ H T (is xs (hl i σ H (Nat.le_of_lt lt) p)) p free
def iEnumA (K : PySem.W.Frag) (ta : TA) : TI := fun σ H R => ta σ H fun vs H1 => ∃ a xs, vs = [.ref a] ∧ ((SqL K H1 a xs ∧ R (Ite K a) H1) ∨ (SqT K H1 a xs ∧ R (IteT K a) H1))
/-- an enumerate object has come, and the iterator below it -/
theorem enum_came {X : Cx} {pins : List (Addr × Obj)} {σ : L2.St} {H : Hp} {s : Shared} {tg : Expr} {R : It → Hp → Prop} {J : It} {tn : Nat → Heap → Prop} {h' : Heap} (I : Inv X pins σ H s) (keep : ∀ b o, s.heap.get? b = some o → h'.get? b = some o)
    (T : Turn X.prog X.w X.K tg J [s.heap.objs.size + 1, s.heap.objs.size] (s.heap.objs.size + 1) tn) (z : tn 0 h') (q : R J H) : PIE X pins σ tg R (.ref (s.heap.objs.size + 1)) { s with heap := h' } := by
  refine ⟨_, _, tn, J, H, rfl, I.turnedL (t' := s.toks) (ch := []) (fun b o _ => keep b o) (fun b hb => nomatch hb), T, z, fun b hb => ?_, q⟩
  have le : s.heap.objs.size ≤ b := by
    obtain z | z := List.mem_cons.mp hb
    · rw [z]; exact Nat.le_succ _
    · exact Nat.le_of_eq (List.mem_singleton.mp z).symm
  exact I.fpOk le (I.hok.fresh le)
theorem pi_enumA {X : Cx} {e : Expr} {ta : TA} {p pos tpos : Pos} {elts : List Expr} {kk : Nat} (hg : Gl X "enumerate") (hm : X.mg "enumerate" = none) (ha : PA X [e] ta) (hs : starEach [e] X.env = [(false, eval e X.env)] := by rfl) :
    PI X (.Tuple elts kk tpos) (.Call (.Name "enumerate" p) [e] [] pos) (iEnumA X.K ta) := by
  constructor
  intro pins s σ H R I h
  have args := ha.run pos pins s σ H _ I h
  have apart : ∀ n : Nat, n + 1 ≠ n := fun n => Nat.succ_ne_self n
  apply Call_
  apply ld_blt I hg hm boot_enumerate
  apply PyProof.Rows.callWith_type1 _ hs
  refine thn args fun us s1 came => ?_
  obtain ⟨vs, H1, I1, r1, a, xs, rfl, ⟨hl, q⟩ | ⟨ht, q⟩⟩ := came
  · rw [Vals.ref1 r1]
    obtain ⟨its, _, pl, _⟩ := I1.list hl
    refine call_enumerate_list pl.isList fun h' e1 e2 _ keep => ?_
    refine wpAny_pyIter_enum e1 (enum_came I1 keep (turn_enum a _ _) ⟨⟨_, e1⟩, e2, apart _⟩ q)
  · rw [Vals.ref1 r1]
    obtain ⟨its, _, pt, _⟩ := I1.tuple ht
    refine call_enumerate_tup pt fun h' e1 e2 keep => ?_
    refine wpAny_pyIter_enum e1 (enum_came I1 keep (turn_enumT a _ _) ⟨⟨_, e1⟩, e2, apart _⟩ q)
  case he => rfl
end L3
end
section
namespace W7
open PySem PySem.Spec PyProof.Rows L2 L3 Evl
open C8 (Cal pe_c Mak pe_mk Met pe_mt pe_mt0)
section
variable {P : Program} {w : World} {K : PySem.W.Frag} {mg : Str → Option Value} {base : Heap} {f : Addr} {fd : FuncData}
def rInt1 : List V → Hp → VK → Prop := fun xs H Q => (∃ i, xs = [.int i] ∧ Q (.int i) H) ∨ ∃ k, xs = [.bl k] ∧ Q (.int (if k then 1 else 0)) H
theorem ev_int1 {σ : L2.St} {H : Hp} {ta : TE} {i : Int} (ha : Ev ta σ H (.int i)) : Ev (tCB rInt1 (tCons ta tNil)) σ H (.int i) := fun H1 e Q q => ha H1 e _ fun H2 e2 => .inl ⟨i, rfl, q H2 e2⟩
def spDraws (K : PySem.W.Frag) : Sp := fun vs H Q _ => ∃ (p : Addr) (ns : List Int), vs = [.ref p] ∧ SqL K H p (ns.map V.int) ∧ ns.length ≤ 100000 ∧ ∀ a H', H a = none → Ex H H' → DrawsAt H' a → Q (.ref a) H'
theorem sc_law_draws : FnScope ["_law_script", "_law_draws_here", "_law_at", "_law_cell", "_law_k", "_law_number_here"] ["_law_script"] (defScope (top 48)) := ⟨rfl, rfl, rfl, by decide +kernel, rfl, by decide +kernel, by decide +kernel⟩
theorem c_law_draws (F : FnP K "_law_draws" (top 48) f fd) (g : mg "_law_draws" = some (.ref f)) (B : Bi mg) : Cal P w K mg base 1 "_law_draws" (spDraws K) [] := by
  refine mkCal F g sc_law_draws (fun _ _ _ _ _ _ us hl => match us, hl with | [_], _ => rfl) (fun vs H Q E h => ?_) (fun cdv A outer s H vs Q E hr h => ?_)
  · obtain ⟨p, ns, rfl, _⟩ := h
    rfl
  · obtain ⟨p, ns, rfl, hs, hz, q⟩ := h
    refine ⟨_, (pss_cons (ps_set (i := 1) sc_law_draws.nd rfl (by first | exact Or.inl rfl | exact Or.inr rfl) (pe_lst pa_nil)) (pss_cons (ps_for PassesOwn.never rfl (pi_range1 rfl B.range (pa_cons (pe_callB (call_min2 rfl) (by rfl) B.min (by decide +kernel) (pa_cons (pe_callB call_len_seq (by rfl) B.len (by decide +kernel) (pa_cons (pv 0) pa_nil)) (pa_cons (pe_nat 63 pe_int) pa_nil))) pa_nil)) (pg_name (i := 2) sc_law_draws.nd rfl (by first | exact Or.inl rfl | exact Or.inr rfl)) (pss_cons (ps_set (i := 3) sc_law_draws.nd rfl (by first | exact Or.inl rfl | exact Or.inr rfl) (pe_callTy call_int1 (by rfl) B.int (by decide +kernel) (pa_cons (pe_ix (on_ix (K := K)) (pv 0) (pv 2) (fun _ _ => rfl)) pa_nil))) (pss_cons (ps_if (pt_cmpR op_lt (pv 3) pe_int (nomark _)) (pss_one (ps_set (i := 3) sc_law_draws.nd rfl (by first | exact Or.inl rfl | exact Or.inr rfl) (pe_op op_sub pe_int (pv 3)))) pss_nil) (pss_one (ps_if (pt_cmpR op_ge (pv 3) (pe_op op_pow pe_int pe_int) (nomark _)) (pss_one (ps_for PassesOwn.never rfl (pi_range1 rfl B.range (pa_cons (pe_nat 60 pe_int) pa_nil)) (pg_name (i := 4) sc_law_draws.nd rfl (by first | exact Or.inl rfl | exact Or.inr rfl)) (pss_one (ps_if (pt_cmpR op_gt (pv 3) pe_int (nomark _)) (pss_cons (ps_expr (pe_bm PySem.F.plainAttrs_list PySem.F.slot_list_append PySem.F.type_list_append mt_append (pv 1) (pa_cons (pe_op op_mod (pe_callTy call_int1 (by rfl) B.int (by decide +kernel) (pa_cons (pv 3) pa_nil)) pe_int) pa_nil))) (pss_one (ps_set (i := 3) sc_law_draws.nd rfl (by first | exact Or.inl rfl | exact Or.inr rfl) (pe_op op_fdiv (pv 3) pe_int)))) pss_nil)))) (pss_cons (ps_set (i := 5) sc_law_draws.nd rfl (by first | exact Or.inl rfl | exact Or.inr rfl) (pe_op op_mod (pe_callTy call_int1 (by rfl) B.int (by decide +kernel) (pa_cons (pe_op op_add (pe_op op_add (pe_op op_mul (pv 3) pe_int) (pe_op op_mul (pv 2) pe_int)) pe_int) pa_nil)) pe_int)) (pss_one (ps_for PassesOwn.never rfl (pi_range1 rfl B.range (pa_cons (pe_nat 6 pe_int) pa_nil)) (pg_name (i := 4) sc_law_draws.nd rfl (by first | exact Or.inl rfl | exact Or.inr rfl)) (pss_cons (ps_set (i := 5) sc_law_draws.nd rfl (by first | exact Or.inl rfl | exact Or.inr rfl) (pe_op op_mod (pe_callTy call_int1 (by rfl) B.int (by decide +kernel) (pa_cons (pe_op op_add (pe_op op_add (pe_op op_add (pe_op op_mul (pv 5) (pv 5)) (pe_op op_mul (pv 4) pe_int)) (pv 2)) pe_int) pa_nil)) pe_int)) (pss_one (ps_expr (pe_bm PySem.F.plainAttrs_list PySem.F.slot_list_append PySem.F.type_list_append mt_append (pv 1) (pa_cons (pv 5) pa_nil))))))))))))) (pss_cons (ps_expr (pe_bm0 PySem.F.plainAttrs_list PySem.F.slot_list_reverse PySem.F.type_list_reverse mt_reverse (pv 1))) (pss_one (ps_ret (pv 1)))))), ?_⟩
    refine q_asgL (el_lst ea_nil (by decide)) fun d H1 hd1 e1 h1 => ?_
    have hlen : (ns.map V.int).length = ns.length := List.length_map _
    refine q_forR1 (n := ((min ns.length 63 : Nat) : Int)) (ea_cons (ev_min2N (ev_is (ev_len (ev_v 0) (ex_l e1 hs)) (by rw [hlen])) ev_c) ea_nil) (by omega) (fun i σ H' => Ex H H' ∧ ∃ xs : List Int, H' d = some (.lst (xs.map V.int)) ∧ xs.length ≤ 60 * i ∧ ∃ v2 v3 v4 v5, σ = [some (.ref p), some (.ref d), v2, v3, v4, v5]) (fun H2 e2 => ⟨e1.trans e2, [], e2 _ _ h1, by simp, _, _, _, _, rfl⟩) ?_ ?_
    · rintro i σ H' hi ⟨e0, xs, h2, hx, v2, v3, v4, v5, rfl⟩
      have hin : i < ns.length := by omega
      refine q_asg (ev_int1 (ev_ix (ex_l e0 hs) (ev_v 0) (ev_v 2) (v := .int ns[i]) (by rw [List.getElem?_map, List.getElem?_eq_some_iff.mpr ⟨hin, rfl⟩]; rfl))) fun H2 e2 => ?_
      generalize ns[i] = cell
      refine q_ifAsg (b := decide (cell < 0)) (v := .int (if cell < 0 then 1 - cell else cell)) (et_test (ev_op (ev_v 3) ev_c rv_I0)) (fun hb => ?_) (fun hb => ?_) (fun H3 e3 => ?_)
      · rw [if_pos (of_decide_eq_true hb)]
        exact ev_op ev_c (ev_v 3) rv_I0
      · rw [if_neg (of_decide_eq_false hb)]
        rfl
      have h3 : H3 d = some (.lst (xs.map V.int)) := e3 _ _ (e2 _ _ h2)
      have e3 : Ex H H3 := e0.trans (e2.trans e3)
      generalize (if cell < 0 then 1 - cell else cell) = c
      refine s_if (et_test (ev_op (ev_v 3) (ev_op ev_c ev_c (rv_I (by unfold CPow; decide))) rv_I0)) (fun hb H4 e4 => ?_) (fun hb H4 e4 => ?_)
      · refine s_forR1 (n := ((60 : Nat) : Int)) (ea_cons ev_c ea_nil) (by decide) (fun k σ H' => Ex H H' ∧ ∃ xs : List Int, H' d = some (.lst (xs.map V.int)) ∧ xs.length ≤ 60 * i + k ∧ ∃ c v4, σ = [some (.ref p), some (.ref d), some (.int (i : Int)), some (.int c), v4, v5]) (fun H5 e5 => ⟨e3.trans (e4.trans e5), xs, e5 _ _ (e4 _ _ h3), by omega, _, _, rfl⟩) ?_ ?_
        · rintro k σ H' hk ⟨e5, xs, h5, hx, c, v4, rfl⟩
          refine s_when (et_test (ev_op (ev_v 3) ev_c rv_I0)) (fun hb H6 e6 => ?_) (fun hb H6 e6 => ⟨e5.trans e6, xs, e6 _ _ h5, by omega, _, _, rfl⟩)
          refine s_app (D := { nx := _, rt := _, bk := _, ct := _ }) (e6 _ _ h5) (ev_v 1) (ev_op (ev_int1 (ev_v 3)) ev_c (rv_I (by show (0 : Int) < 24; decide))) (by rw [List.length_map]; omega) fun H7 e7 => ?_
          refine s_asg (ev_op (ev_v 3) ev_c (rv_I (by unfold CDiv; decide))) fun H8 e8 => ⟨(Ex.mut (e5.trans (e6.trans e7)) hd1).trans e8, xs ++ [c % 24], ?_, by rw [List.length_append]; simp; omega, _, _, rfl⟩
          rw [e8 _ _ upd_same, List.map_append]; rfl
        · rintro σ H' ⟨e5, xs, h5, hx, c, v4, rfl⟩
          exact ⟨e5, xs, h5, by simpa [Nat.mul_add] using hx, _, _, _, _, rfl⟩
      · refine q_asg (ev_op (ev_int1 (ev_op (ev_op (ev_op (ev_v 3) ev_c (rv_I (by unfold CMul; omega))) (ev_op (ev_v 2) ev_c (rv_I (by unfold CMul; omega))) rv_I0) ev_c rv_I0)) ev_c (rv_I (by show (0 : Int) < 2147483647; decide))) fun H5 e5 => ?_
        refine s_forR1 (n := ((6 : Nat) : Int)) (ea_cons ev_c ea_nil) (by decide) (fun k σ H' => Ex H H' ∧ ∃ xs : List Int, H' d = some (.lst (xs.map V.int)) ∧ xs.length ≤ 60 * i + k ∧ ∃ (n : Int) (v4 : Option V), 0 ≤ n ∧ n < 2147483647 ∧ σ = [some (.ref p), some (.ref d), some (.int (i : Int)), some (.int c), v4, some (.int n)]) (fun H6 e6 => ⟨e3.trans (e4.trans (e5.trans e6)), xs, e6 _ _ (e5 _ _ (e4 _ _ h3)), by omega, _, _, Int.emod_nonneg _ (by decide), Int.emod_lt_of_pos _ (by decide), rfl⟩) ?_ ?_
        · rintro k σ H' hk ⟨e6, xs, h6, hx, n, v4, hn0, hn1, rfl⟩
          refine q_asg (ev_op (ev_int1 (ev_op (ev_op (ev_op (ev_op (ev_v 5) (ev_v 5) (rv_I (by unfold CMul; omega))) (ev_op (ev_v 4) ev_c (rv_I (by unfold CMul; omega))) rv_I0) (ev_v 2) rv_I0) ev_c rv_I0)) ev_c (rv_I (by show (0 : Int) < 2147483563; decide))) fun H7 e7 => ?_
          refine s_app (D := { nx := _, rt := _, bk := _, ct := _ }) (e7 _ _ h6) (ev_v 1) (ev_v 5) (by rw [List.length_map]; omega) fun H8 e8 => ?_
          refine ⟨Ex.mut (e6.trans (e7.trans e8)) hd1, xs ++ [(n * n + (k : Int) * 48271 + (i : Int) + 5) % 2147483563], ?_, by rw [List.length_append]; simp; omega, _, _, Int.emod_nonneg _ (by decide), Int.lt_of_lt_of_le (Int.emod_lt_of_pos _ (by decide)) (by decide : (2147483563 : Int) ≤ 2147483647), rfl⟩
          rw [upd_same, List.map_append]; rfl
        · rintro σ H' ⟨e6, xs, h6, hx, n, v4, hn0, hn1, rfl⟩
          refine ⟨e6, xs, h6, ?_, _, _, _, _, rfl⟩
          have : (((6 : Nat) : Int)).toNat = 6 := rfl
          omega
    · rintro σ H' ⟨e0, xs, h2, hx, v2, v3, v4, v5, rfl⟩
      refine ⟨.ref d, rfl, .inl ⟨rfl, _, sq_of h2⟩, d, _, rfl, rfl, h2, ?_⟩
      refine s_ret (ev_v 1) fun H3 e3 => q d H3 hd1 ((Ex.mut e0 hd1).trans e3) ⟨xs.reverse, ?_⟩
      rw [e3 _ _ upd_same, List.map_reverse]
end
end W7
end
section
namespace W7
open PySem PySem.Spec PyProof.Rows L2 L3 Evl
open C8 (Cal pe_c Mak pe_mk Met pe_mt pe_mt0)
def iSeqA (K : PySem.W.Frag) (tl : TE) : TI := fun σ H R => tl σ H fun x H1 => ∃ a, x = .ref a ∧ (((∃ xs, SqL K H1 a xs) ∧ R (Itl K a) H1) ∨ ((∃ xs, SqT K H1 a xs) ∧ R (Itt K a) H1))
theorem pi_seqA {X : Cx} {tg l : Expr} {tl : TE} (hl : PE X l tl) : PI X tg l (iSeqA X.K tl) := by
  constructor
  intro pins s σ H R I h
  refine thn (hl.run pins s σ H _ I h) fun v s1 came => ?_
  obtain ⟨x, H1, I1, r, a, rfl, ⟨⟨xs, hx⟩, q⟩ | ⟨⟨xs, hx⟩, q⟩⟩ := came
  · obtain rfl : v = .ref a := r
    obtain ⟨its, _, p, _⟩ := I1.list hx
    exact wpAny_pyIter_list p.isList (pi_one (tk := s1.toks) I1 _ (turn_list a _) ⟨_, Heap.get?_push_size s1.heap rfl, rfl, rfl⟩ q)
  · obtain rfl : v = .ref a := r
    obtain ⟨its, _, p, _⟩ := I1.tuple hx
    exact wpAny_pyIter_tuple p (pi_one (tk := s1.toks) I1 _ (turn_tuple a _) ⟨_, Heap.get?_push_size s1.heap rfl, rfl, rfl⟩ q)
/-- a list or tuple of naturals -/
def LotA (H : Hp) (p : Addr) (ns : List Nat) : Prop := H p = some (.lst (nv ns)) ∨ H p = some (.tup (nv ns))
theorem LotA.ex {H H' : Hp} {p : Addr} {ns : List Nat} (h : LotA H p ns) (e : Ex H H') : LotA H' p ns := h.imp (e _ _) (e _ _)
theorem LotA.sq {K : PySem.W.Frag} {H : Hp} {p : Addr} {ns : List Nat} (h : LotA H p ns) : SqL K H p (nv ns) ∨ SqT K H p (nv ns) := h.imp sq_of st_of
/-- a lot of things below size -/
def LotOk (size : Nat) (ns : List Nat) : Prop := ns.Nodup ∧ (∀ n ∈ ns, n < size) ∧ size ≤ 12
theorem cut_take {xs : List V} {i : Nat} (h : i ≤ xs.length) : cutV xs none (some (i : Int)) = xs.take i := by
  unfold cutV
  rw [HT.sIx_nat, HT.sIx_none]
  simp [Nat.min_eq_left h]
theorem inV_nat {n : Nat} : ∀ {ms : List Nat}, inV (.int (n : Nat)) (nv ms) = decide (n ∈ ms)
  | [] => rfl
  | m :: ms => by
    have e : inV (.int (n : Nat)) (nv (m :: ms)) = (eqV (.int (m : Nat)) (.int (n : Nat)) || inV (.int (n : Nat)) (nv ms)) := rfl
    rw [e, inV_nat]
    have e2 : eqV (.int (m : Nat)) (.int (n : Nat)) = decide (n = m) := by
      show ((m : Int) == (n : Int)) = _
      by_cases h : n = m
      · subst h; simp
      · have : (m : Int) ≠ (n : Int) := by omega
        simp [h, this]
    rw [e2]
    by_cases h : n = m <;> simp [h]
theorem nv_flat (ns : List Nat) : (nv ns).all flatV = true := by
  unfold nv
  rw [List.all_map]
  exact List.all_eq_true.mpr fun m hm => rfl
section
variable {P : Program} {w : World} {K : PySem.W.Frag} {mg : Str → Option Value} {base : Heap} {f : Addr} {fd : FuncData}
def spIsInt : Sp := fun vs H Q _ => ∃ i : Int, vs = [.int i] ∧ RetV (.bl true) H Q
theorem sc_is_int : FnScope ["value"] ["value"] (defScope (top 9)) := ⟨rfl, rfl, rfl, by decide +kernel, rfl, by decide +kernel, by decide +kernel⟩
theorem c_is_int (F : FnP K "is_int" (top 9) f fd) (g : mg "is_int" = some (.ref f)) (B : Bi mg) : Cal P w K mg base 1 "is_int" spIsInt [] := by
  refine mkCal F g sc_is_int (fun _ _ _ _ _ _ us hl => match us, hl with | [_], _ => rfl) (fun vs H Q E h => ?_) (fun cdv A outer s H vs Q E hr h => ?_)
  · obtain ⟨i, rfl, _⟩ := h
    rfl
  · obtain ⟨i, rfl, q⟩ := h
    refine ⟨_, (pss_one (ps_ret (pe_and (pe_callB call_isi (by rfl) B.isinstance (by decide +kernel) (pa_cons (pv 0) (pa_cons (pe_bltn (v := .ty "int") (by rfl) B.int (by decide +kernel) rfl) pa_nil))) (pe_one (pe_not (pe_callB call_isi (by rfl) B.isinstance (by decide +kernel) (pa_cons (pv 0) (pa_cons (pe_bltn (v := .ty "bool") (by rfl) B.bool (by decide +kernel) rfl) pa_nil)))))))), ?_⟩
    exact s_ret (ev_andV (a := true) (b := !false) (ev_cb (ea_cons (ev_v 0) (ea_cons ev_c ea_nil)) (fun H1 e Q q => ⟨_, _, _, _, true, rfl, .ty _, .base (.int _), rfl, q H1 (Ex.refl _)⟩))
      (fun _ => ev_notV (ev_cb (ea_cons (ev_v 0) (ea_cons ev_c ea_nil)) (fun H1 e Q q => ⟨_, _, _, _, false, rfl, .ty _, .base (.int _), rfl, q H1 (Ex.refl _)⟩)))) q
def spIsList : Sp := fun vs H Q _ => ∃ (p : Addr) (xs : List V), vs = [.ref p] ∧ (H p = some (.lst xs) ∨ H p = some (.tup xs)) ∧ RetV (.bl true) H Q
theorem sc_is_list : FnScope ["value"] ["value"] (defScope (top 10)) := ⟨rfl, rfl, rfl, by decide +kernel, rfl, by decide +kernel, by decide +kernel⟩
theorem c_is_list (F : FnP K "is_list" (top 10) f fd) (g : mg "is_list" = some (.ref f)) (B : Bi mg) : Cal P w K mg base 1 "is_list" spIsList [] := by
  refine mkCal F g sc_is_list (fun _ _ _ _ _ _ us hl => match us, hl with | [_], _ => rfl) (fun vs H Q E h => ?_) (fun cdv A outer s H vs Q E hr h => ?_)
  · obtain ⟨i, ns, rfl, _⟩ := h
    rfl
  · obtain ⟨p, ns, rfl, hp, q⟩ := h
    refine ⟨_, (pss_one (ps_ret (pe_callB call_isiT (by rfl) B.isinstance (by decide +kernel) (pa_cons (pv 0) (pa_cons (pe_tup (pa_cons (pe_bltn (v := .ty "tuple") (by rfl) B.tuple (by decide +kernel) rfl) (pa_cons (pe_bltn (v := .ty "list") (by rfl) B.list (by decide +kernel) rfl) pa_nil))) pa_nil))))), ?_⟩
    refine ⟨.ref p, rfl, (by decide : 2 ≤ sizeLine), fun l hl => ?_⟩
    have ee := Ex.new (o := .tup [.ty "tuple", .ty "list"]) hl
    rcases (hp.imp (ee _ _) (ee _ _)) with h | h
    · exact ⟨.ref p, l, [.ty "tuple", .ty "list"], .type "list", [.type "tuple", .type "list"], true, rfl, upd_same, .cons (.ty _) (.cons (.ty _) .nil), .base (.lst h), rfl, q _ (Ex.new hl)⟩
    · exact ⟨.ref p, l, [.ty "tuple", .ty "list"], .type "tuple", [.type "tuple", .type "list"], true, rfl, upd_same, .cons (.ty _) (.cons (.ty _) .nil), .base (.tup h), rfl, q _ (Ex.new hl)⟩
def spWrong : Sp := fun vs H Q _ => ∃ (p : Addr) (ns : List Nat) (size : Nat), vs = [.ref p, .int size] ∧ LotA H p ns ∧ LotOk size ns ∧ RetV .non H Q
theorem sc_wrong_entry : FnScope ["things", "size", "place", "thing"] ["things", "size"] (defScope (top 11)) := ⟨rfl, rfl, rfl, by decide +kernel, rfl, by decide +kernel, by decide +kernel⟩
theorem c_wrong_entry (F : FnP K "wrong_entry" (top 11) f fd) (g : mg "wrong_entry" = some (.ref f)) (B : Bi mg) (c_is_int : Cal P w K mg base 1 "is_int" spIsInt []) : Cal P w K mg base 2 "wrong_entry" spWrong [] := by
  refine mkCal F g sc_wrong_entry (fun _ _ _ _ _ _ us hl => match us, hl with | [_, _], _ => rfl) (fun vs H Q E h => ?_) (fun cdv A outer s H vs Q E hr h => ?_)
  · obtain ⟨i, ns, size, rfl, _⟩ := h
    rfl
  · obtain ⟨p, ns, size, rfl, hp, ⟨hnd, hlt, h12⟩, q⟩ := h
    refine ⟨_, (pss_cons (ps_for PassesOwn.never rfl (pi_enumA (by rfl) B.enumerate (pa_cons (pv 0) pa_nil)) (pg_tup rfl (pgs_cons (pg_name (i := 2) sc_wrong_entry.nd rfl (by first | exact Or.inl rfl | exact Or.inr rfl)) (pgs_cons (pg_name (i := 3) sc_wrong_entry.nd rfl (by first | exact Or.inl rfl | exact Or.inr rfl)) pgs_nil))) (pss_cons (ps_if (PW.pt (pw_or (pt_not (pt_val (pe_c c_is_int hr (by decide) rfl (pa_cons (pv 3) pa_nil)))) (pw_or (pt_cmpR on_lt (pv 3) (pe_nat 0 pe_int) (nomark _)) (pw_or1 (pt_cmpR op_in_seq (pv 3) (pe_slice (sl_list.or sl_tup) (pv 0) po_none (po_some (pv 2))) rfl))))) (pss_one (ps_ret (pv 2))) pss_nil) (pss_one (ps_if (PW.pt (pw_and (pt_cmp (pc_notN (pv 1))) (pw_and1 (pt_cmpR on_ge (pv 3) (pv 1) (nomark _))))) (pss_one (ps_ret (pv 2))) pss_nil)))) (pss_one (ps_ret pe_non))), ?_⟩
    have cut : ∀ {i n : Nat}, ns[i]? = some n → inV (.int (n : Nat)) (cutV (nv ns) none (some (i : Int))) = false := fun {i n} hn => by
      have hi := (List.getElem?_eq_some_iff.mp hn).1
      rw [cut_take (by rw [nv_len]; omega)]
      have e : (nv ns).take i = nv (ns.take i) := by unfold nv; rw [List.map_take]
      rw [e, inV_nat]
      refine decide_eq_false fun h => ?_
      obtain ⟨j, hj, e2⟩ := List.getElem_of_mem h
      rw [List.length_take] at hj
      rw [List.getElem_take] at e2
      have := (List.getElem?_eq_some_iff.mp hn).2
      rw [← this] at e2
      exact (List.pairwise_iff_getElem.mp hnd) j i (by omega) hi (by omega) e2
    rcases hp with hp | hp
    · refine ⟨.ref p, rfl, p, nv ns, rfl, .inl ⟨sq_of hp, for_enumL (fun i σ H' => Ex H H' ∧ ∃ v2 v3, σ = [some (.ref p), some (.int size), v2, v3]) ⟨Ex.refl H, _, _, rfl⟩ (fun i σ H' _ h => sq_of (h.1 _ _ hp)) ?_ ?_⟩⟩
      · rintro i x σ H' T hx ⟨e0, v2, v3, rfl⟩ hT
        obtain ⟨n, hn, rfl⟩ := nv_get hx
        have hns := hlt n (List.mem_of_getElem? hn)
        refine ⟨T, [.int (i : Nat), .int (n : Nat)], rfl, st_of upd_same, rfl, _, _, rfl, _, _, rfl, rfl, ?_⟩
        have e0 := e0.trans (Ex.new (o := .tup [.int (i : Nat), .int (n : Nat)]) hT)
        refine q_when (b := !true || (decide (n < 0) || false)) (et_or (et_not (et_B (ev_call (ea_cons (ev_v 3) ea_nil) fun H2 e2 Q2 q2 E2 => ⟨_, rfl, q2⟩))) fun _ => et_or (et_test (ev_n (ev_v 3) ev_c)) fun _ => ?_) (fun hb => absurd hb (by simp)) (fun _ H3 e3 => ?_)
        · intro H3 e3 Q3 q3
          refine ⟨.int (n : Nat), rfl, .ref p, rfl, .int (i : Nat), rfl, _, rfl, .inl ⟨p, nv ns, rfl, sq_of (e3 _ _ (e0 _ _ hp)), fun l hl => ⟨l, _, rfl, .inl (sq_of upd_same), rfl, ?_, ?_⟩⟩⟩
          · rw [cut_take (by rw [nv_len]; have := (List.getElem?_eq_some_iff.mp hn).1; omega)]
            have e : (nv ns).take i = nv (ns.take i) := by unfold nv; rw [List.map_take]
            rw [e]; exact nv_flat _
          · refine ⟨_, rfl, ?_⟩
            have q4 : ∀ o, Q3 false (upd H3 l o) := fun o => q3 _ (Ex.new hl)
            rw [← cut hn] at q4
            exact q4 _
        · refine s_when (b := true && false) (et_and (et_B (fun H4 e4 Q4 q4 => ⟨.int size, rfl, q4 H4 (Ex.refl _)⟩)) fun _ => et_is (et_test (ev_n (ev_v 3) (ev_v 1))) (decide_eq_false (by omega))) (fun hb => absurd hb (by simp)) (fun _ H4 e4 => ⟨e0.trans (e3.trans e4), _, _, rfl⟩)
      · rintro σ H' ⟨e0, v2, v3, rfl⟩
        exact q H' e0
    · refine ⟨.ref p, rfl, p, nv ns, rfl, .inr ⟨st_of hp, for_enumA (fun i σ H' => Ex H H' ∧ ∃ v2 v3, σ = [some (.ref p), some (.int size), v2, v3]) ⟨Ex.refl H, _, _, rfl⟩ (fun i σ H' _ h => st_of (h.1 _ _ hp)) ?_ ?_⟩⟩
      · rintro i x σ H' T hx ⟨e0, v2, v3, rfl⟩ hT
        obtain ⟨n, hn, rfl⟩ := nv_get hx
        have hns := hlt n (List.mem_of_getElem? hn)
        refine ⟨T, [.int (i : Nat), .int (n : Nat)], rfl, st_of upd_same, rfl, _, _, rfl, _, _, rfl, rfl, ?_⟩
        have e0 := e0.trans (Ex.new (o := .tup [.int (i : Nat), .int (n : Nat)]) hT)
        refine q_when (b := !true || (decide (n < 0) || false)) (et_or (et_not (et_B (ev_call (ea_cons (ev_v 3) ea_nil) fun H2 e2 Q2 q2 E2 => ⟨_, rfl, q2⟩))) fun _ => et_or (et_test (ev_n (ev_v 3) ev_c)) fun _ => ?_) (fun hb => absurd hb (by simp)) (fun _ H3 e3 => ?_)
        · intro H3 e3 Q3 q3
          refine ⟨.int (n : Nat), rfl, .ref p, rfl, .int (i : Nat), rfl, _, rfl, .inr ⟨p, nv ns, rfl, st_of (e3 _ _ (e0 _ _ hp)), ?_, fun l hl => ⟨l, _, rfl, .inr (st_of upd_same), rfl, ?_, ?_⟩⟩⟩
          · rw [HT.sIx_nat, nv_len]
            have := (List.getElem?_eq_some_iff.mp hn).1
            rintro ⟨_, h⟩
            omega
          · rw [cut_take (by rw [nv_len]; have := (List.getElem?_eq_some_iff.mp hn).1; omega)]
            have e : (nv ns).take i = nv (ns.take i) := by unfold nv; rw [List.map_take]
            rw [e]; exact nv_flat _
          · refine ⟨_, rfl, ?_⟩
            have q4 : ∀ o, Q3 false (upd H3 l o) := fun o => q3 _ (Ex.new hl)
            rw [← cut hn] at q4
            exact q4 _
        · refine s_when (b := true && false) (et_and (et_B (fun H4 e4 Q4 q4 => ⟨.int size, rfl, q4 H4 (Ex.refl _)⟩)) fun _ => et_is (et_test (ev_n (ev_v 3) (ev_v 1))) (decide_eq_false (by omega))) (fun hb => absurd hb (by simp)) (fun _ H4 e4 => ⟨e0.trans (e3.trans e4), _, _, rfl⟩)
      · rintro σ H' ⟨e0, v2, v3, rfl⟩
        exact q H' e0
def spIsLot : Sp := fun vs H Q _ => ∃ (p : Addr) (ns : List Nat) (size : Nat), vs = [.ref p, .int size] ∧ LotA H p ns ∧ LotOk size ns ∧ RetV (.bl true) H Q
theorem sc_is_lot : FnScope ["lot", "size"] ["lot", "size"] (defScope (top 12)) := ⟨rfl, rfl, rfl, by decide +kernel, rfl, by decide +kernel, by decide +kernel⟩
theorem c_is_lot (F : FnP K "is_lot" (top 12) f fd) (g : mg "is_lot" = some (.ref f)) (B : Bi mg) (c_is_list : Cal P w K mg base 1 "is_list" spIsList []) (c_wrong_entry : Cal P w K mg base 2 "wrong_entry" spWrong []) : Cal P w K mg base 3 "is_lot" spIsLot [] := by
  refine mkCal F g sc_is_lot (fun _ _ _ _ _ _ us hl => match us, hl with | [_, _], _ => rfl) (fun vs H Q E h => ?_) (fun cdv A outer s H vs Q E hr h => ?_)
  · obtain ⟨i, ns, size, rfl, _⟩ := h
    rfl
  · obtain ⟨p, ns, size, rfl, hp, ok, q⟩ := h
    refine ⟨_, (pss_one (ps_ret (pe_and (pe_c c_is_list hr (by decide) rfl (pa_cons (pv 0) pa_nil)) (pe_one (pe_cmp (pc_isN (pe_c c_wrong_entry hr (by decide) rfl (pa_cons (pv 0) (pa_cons (pv 1) pa_nil)))) rfl))))), ?_⟩
    refine ⟨.ref p, rfl, p, nv ns, rfl, hp, fun H1 e1 => ⟨true, rfl, ?_⟩⟩
    refine ⟨.ref p, rfl, .int size, rfl, p, ns, size, rfl, hp.ex e1, ok, fun H2 e2 => ?_⟩
    exact q H2 (e1.trans e2)
def spLotOf : Sp := fun vs H Q _ => ∃ (p : Addr) (ns : List Nat) (size : Nat), vs = [.ref p, .int size] ∧ LotA H p ns ∧ LotOk size ns ∧ ns.Pairwise (· ≤ ·) ∧ RetU (nv ns) H Q
theorem sorted_eq {xs ys : List Nat} (h : xs.Perm ys) (h1 : xs.Pairwise (· ≤ ·)) (h2 : ys.Pairwise (· ≤ ·)) : xs = ys := h.eq_of_pairwise (fun a b _ _ => Nat.le_antisymm) h1 h2
theorem sc_lot_of : FnScope ["lot", "size", "place"] ["lot", "size"] (defScope (top 13)) := ⟨rfl, rfl, rfl, by decide +kernel, rfl, by decide +kernel, by decide +kernel⟩
theorem c_lot_of (F : FnP K "lot_of" (top 13) f fd) (g : mg "lot_of" = some (.ref f)) (B : Bi mg) (c_is_list : Cal P w K mg base 1 "is_list" spIsList []) (c_wrong_entry : Cal P w K mg base 2 "wrong_entry" spWrong []) : Cal P w K mg base 3 "lot_of" spLotOf [] := by
  refine mkCal F g sc_lot_of (fun _ _ _ _ _ _ us hl => match us, hl with | [_, _], _ => rfl) (fun vs H Q E h => ?_) (fun cdv A outer s H vs Q E hr h => ?_)
  · obtain ⟨i, ns, size, rfl, _⟩ := h
    rfl
  · obtain ⟨p, ns, size, rfl, hp, ok, hso, q⟩ := h
    refine ⟨_, (pss_cons (ps_if (pt_not (pt_val (pe_c c_is_list hr (by decide) rfl (pa_cons (pv 0) pa_nil)))) (pss_one ps_never) pss_nil) (pss_cons (ps_set (i := 2) sc_lot_of.nd rfl (by first | exact Or.inl rfl | exact Or.inr rfl) (pe_c c_wrong_entry hr (by decide) rfl (pa_cons (pv 0) (pa_cons (pv 1) pa_nil)))) (pss_cons (ps_if (pt_cmp (pc_notN (pv 2))) (pss_one ps_never) pss_nil) (pss_one (ps_ret (pe_callTy call_tuple_of (by rfl) B.tuple (by decide +kernel) (pa_cons (pe_callB cr_sortedA (by rfl) B.sorted (by decide +kernel) (pa_cons (pv 0) pa_nil)) pa_nil))))))), ?_⟩
    refine ⟨.ref p, rfl, p, nv ns, rfl, hp, fun H1 e1 => ⟨true, rfl, ?_⟩⟩
    refine q_asg (v := .non) (ev_call (ea_cons (ev_v 0) (ea_cons (ev_v 1) ea_nil)) fun H2 e2 Q2 q2 E2 => ⟨p, ns, size, rfl, (hp.ex e1).ex e2, ok, q2⟩) fun H2 e2 => ?_
    refine ⟨.non, rfl, false, rfl, ?_⟩
    refine ⟨.ref p, rfl, p, ns.map fun n => ((n : Nat) : Int), rfl, ?_, fun is l h3 h4 hl => ?_⟩
    · have := LotA.sq (K := K) ((hp.ex e1).ex e2)
      unfold nv at this
      rw [List.map_map]
      exact this
    · obtain ⟨ms, rfl⟩ : ∃ ms : List Nat, is = ms.map fun n => ((n : Nat) : Int) := by
        refine ⟨is.map Int.toNat, ?_⟩
        rw [List.map_map]
        have : ∀ i ∈ is, ((fun n => ((n : Nat) : Int)) ∘ Int.toNat) i = id i := fun i hi => by
          obtain ⟨n, _, rfl⟩ := List.mem_map.mp (h3.mem_iff.mp hi)
          rfl
        rw [List.map_congr_left this, List.map_id]
      have h5 : ms.Perm ns := by
        have := h3.map Int.toNat
        simpa [List.map_map, Function.comp_def] using this
      have h6 : ms.Pairwise (· ≤ ·) := by
        rw [List.pairwise_map] at h4
        exact h4.imp fun h => by omega
      have := sorted_eq h5 h6 hso
      subst this
      refine ⟨l, nv ms, rfl, .inl ⟨sq_of ?_, fun l2 hl2 => ?_⟩⟩
      · rw [upd_same]; unfold nv; rw [List.map_map]; rfl
      · exact q l2 _ (fresh_back (e1.trans e2) (fresh_back (Ex.new hl) hl2)) ((e1.trans e2).trans ((Ex.new hl).trans (Ex.new hl2))) upd_same
/-- mask_of -/
def orF (ns : List Nat) : Nat := ns.foldl (fun a x => a ||| (1 <<< x)) 0
def spMaskOf : Sp := fun vs H Q _ => ∃ (p : Addr) (ns : List Nat), vs = [.ref p] ∧ LotA H p ns ∧ (∀ n ∈ ns, n < 64) ∧ RetV (.int (orF ns : Nat)) H Q
theorem sc_mask_of : FnScope ["lot", "mask", "thing"] ["lot"] (defScope (top 17)) := ⟨rfl, rfl, rfl, by decide +kernel, rfl, by decide +kernel, by decide +kernel⟩
theorem c_mask_of (F : FnP K "mask_of" (top 17) f fd) (g : mg "mask_of" = some (.ref f)) (B : Bi mg) : Cal P w K mg base 1 "mask_of" spMaskOf [] := by
  refine mkCal F g sc_mask_of (fun _ _ _ _ _ _ us hl => match us, hl with | [_], _ => rfl) (fun vs H Q E h => ?_) (fun cdv A outer s H vs Q E hr h => ?_)
  · obtain ⟨p, ns, rfl, _⟩ := h
    rfl
  · obtain ⟨p, ns, rfl, hs, hb, q⟩ := h
    refine ⟨_, (pss_cons (ps_set (i := 1) sc_mask_of.nd rfl (by first | exact Or.inl rfl | exact Or.inr rfl) (pe_nat 0 pe_int)) (pss_cons (ps_for PassesOwn.never rfl (pi_seqA (pv 0)) (pg_name (i := 2) sc_mask_of.nd rfl (by first | exact Or.inl rfl | exact Or.inr rfl)) (pss_one (ps_set (i := 1) sc_mask_of.nd rfl (by first | exact Or.inl rfl | exact Or.inr rfl) (pe_op on_or (pv 1) (pe_op on_shl (pe_nat 1 pe_int) (pv 2)))))) (pss_one (ps_ret (pv 1))))), ?_⟩
    refine q_asg ev_c fun H1 e1 => ?_
    rcases hs with hs | hs
    · refine ⟨.ref p, rfl, p, rfl, .inl ⟨⟨nv ns, sq_of (e1 _ _ hs)⟩, for_list (xs := nv ns) (fun i σ H' => Ex H H' ∧ ∃ v, σ = [some (.ref p), some (.int (orF (ns.take i) : Nat)), v]) ⟨e1, _, rfl⟩ (fun i σ H' _ h => sq_of (h.1 _ _ hs)) ?_ ?_⟩⟩
      · rintro i x σ H' hx ⟨e0, v, rfl⟩
        obtain ⟨n, hn, rfl⟩ := nv_get hx
        show tAsg _ _ _ [some (.ref p), some (.int (orF (ns.take i) : Nat)), some (.int (n : Nat))] H'
        refine s_asg (ev_n (ev_v 1) (ev_nc ev_c (ev_v 2) ⟨by decide, hb n (List.mem_of_getElem? hn)⟩)) fun H2 e2 => ⟨e0.trans e2, some (.int (n : Nat)), ?_⟩
        unfold orF
        rw [List.take_add_one, hn, Option.toList_some, List.foldl_append]
        rfl
      · rintro σ H' ⟨e0, v, rfl⟩
        refine s_ret (ev_v 1) fun H2 e2 => ?_
        rw [nv_len, List.take_length]
        exact q H2 (e0.trans e2)
    · refine ⟨.ref p, rfl, p, rfl, .inr ⟨⟨nv ns, st_of (e1 _ _ hs)⟩, for_tup (xs := nv ns) (fun i σ H' => Ex H H' ∧ ∃ v, σ = [some (.ref p), some (.int (orF (ns.take i) : Nat)), v]) ⟨e1, _, rfl⟩ (fun i σ H' _ h => st_of (h.1 _ _ hs)) ?_ ?_⟩⟩
      · rintro i x σ H' hx ⟨e0, v, rfl⟩
        obtain ⟨n, hn, rfl⟩ := nv_get hx
        show tAsg _ _ _ [some (.ref p), some (.int (orF (ns.take i) : Nat)), some (.int (n : Nat))] H'
        refine s_asg (ev_n (ev_v 1) (ev_nc ev_c (ev_v 2) ⟨by decide, hb n (List.mem_of_getElem? hn)⟩)) fun H2 e2 => ⟨e0.trans e2, some (.int (n : Nat)), ?_⟩
        unfold orF
        rw [List.take_add_one, hn, Option.toList_some, List.foldl_append]
        rfl
      · rintro σ H' ⟨e0, v, rfl⟩
        refine s_ret (ev_v 1) fun H2 e2 => ?_
        rw [nv_len, List.take_length]
        exact q H2 (e0.trans e2)
def spLotFrom : Sp := fun vs H Q _ => ∃ n : Nat, vs = [.int n] ∧ n < 64 ∧ RetU (nv (lotF n)) H Q
theorem lot_bits : ∀ n : Nat, n < 64 → (List.range (Builtin.Int.intBits (n : Int))).filter (fun i => decide (((n >>> i) &&& 1 : Nat) ≠ 0)) = lotF n := by decide +kernel
theorem sc_lot_from : FnScope ["mask", "thing"] ["mask"] (defScope (top 18)) := ⟨rfl, rfl, rfl, by decide +kernel, rfl, by decide +kernel, by decide +kernel⟩
theorem c_lot_from (F : FnP K "lot_from" (top 18) f fd) (g : mg "lot_from" = some (.ref f)) (B : Bi mg) : Cal P w K mg base 1 "lot_from" spLotFrom [] := by
  refine mkCal F g sc_lot_from (fun _ _ _ _ _ _ us hl => match us, hl with | [_], _ => rfl) (fun vs H Q E h => ?_) (fun cdv A outer s H vs Q E hr h => ?_)
  · obtain ⟨n, rfl, _⟩ := h
    rfl
  · obtain ⟨n, rfl, h64, q⟩ := h
    refine ⟨_, (pss_one (ps_ret (pe_callTy call_tuple_of (by rfl) B.tuple (by decide +kernel) (pa_cons (pe_lc (own := [("thing", 1)]) (g := gName 1) (by rfl) sc_lot_from.nd (pi_range1 rfl B.range (pa_cons (pe_bits (pv 0)) pa_nil)) (blkOk_by (own := [("thing", 1)]) (N := ["mask", "thing"]) (sc := defScope (top 18)) (by decide +kernel)) (fun _ _ _ _ _ => (pg_name (i := 1) sc_lot_from.nd rfl (by first | exact Or.inl rfl | exact Or.inr rfl))) (fun _ _ _ _ _ => (pts_one (pt_truthK (K := K) rfl (pe_op on_and (pe_op on_shr (pv 0) (pv 1)) (pe_nat 1 pe_int)) (fun _ => rfl)))) (fun _ _ _ _ _ => (pv 1))) pa_nil)))), ?_⟩
    have hl : Builtin.Int.intBits (n : Int) ≤ 40000 := by
      have : ∀ n : Nat, n < 64 → Builtin.Int.intBits (n : Int) ≤ 40000 := by decide +kernel
      exact this n h64
    refine s_retU (eu_tupOf (el_rng (n := Builtin.Int.intBits (n : Int)) (fun i => decide (((n >>> i) &&& 1 : Nat) ≠ 0)) (fun i => .int (i : Nat)) (ea_cons (fun H1 e Q q => ⟨.int n, rfl, n, rfl, q H1 (Ex.refl _)⟩) ea_nil) hl (fun _ => rfl) (fun i H1 e hi => fun H2 e2 Q q => ?_) (fun i H1 e hi hf => ev_v 1))) fun p H1 hp e h1 => q p H1 hp e ?_
    · refine (ev_n (ev_n (ev_v 0) (ev_v 1)) ev_c : Ev _ _ H1 _) H2 e2 _ fun H3 e3 => ⟨_, rfl, ?_⟩
      have e : ((((n >>> i) &&& 1 : Nat) : Int) != 0) = decide (((n >>> i) &&& 1 : Nat) ≠ 0) := by
        by_cases h : (n >>> i) &&& 1 = 0
        · simp [h]
        · have : (((n >>> i) &&& 1 : Nat) : Int) ≠ 0 := by omega
          simp only [bne_iff_ne, ne_eq, this, not_false_eq_true, h, decide_true]
      have := q H3 e3
      rw [← e] at this
      exact this
    · rw [h1]
      have := lot_bits n h64
      unfold nv
      rw [← this]
def spLotsFrom (K : PySem.W.Frag) : Sp := fun vs H Q _ => ∃ (p : Addr) (ms : List Nat), vs = [.ref p] ∧ SqL K H p (nv ms) ∧ ms.length ≤ 64 ∧ (∀ m ∈ ms, m < 64) ∧ ∀ L : List (List Nat), L.Perm (ms.map lotF) → L.Pairwise lexLe → RetLots L H Q
theorem sc_lots_from : FnScope ["masks", "mask"] ["masks"] (defScope (top 19)) := ⟨rfl, rfl, rfl, by decide +kernel, rfl, by decide +kernel, by decide +kernel⟩
theorem c_lots_from (F : FnP K "lots_from" (top 19) f fd) (g : mg "lots_from" = some (.ref f)) (B : Bi mg) (c_lot_from : Cal P w K mg base 1 "lot_from" spLotFrom []) : Cal P w K mg base 2 "lots_from" (spLotsFrom K) [] := by
  refine mkCal F g sc_lots_from (fun _ _ _ _ _ _ us hl => match us, hl with | [_], _ => rfl) (fun vs H Q E h => ?_) (fun cdv A outer s H vs Q E hr h => ?_)
  · obtain ⟨p, ms, rfl, _⟩ := h
    rfl
  · obtain ⟨p, ms, rfl, hs, hz, hb, q⟩ := h
    refine ⟨_, (pss_one (ps_ret (pe_callB (cr_sortLots hr.units) (by rfl) B.sorted (by decide +kernel) (pa_cons (pe_lc (own := [("mask", 1)]) (g := gName 1) (by rfl) sc_lots_from.nd (pi_list (pv 0)) (blkOk_by (own := [("mask", 1)]) (N := ["masks", "mask"]) (sc := defScope (top 19)) (by decide +kernel)) (fun _ _ _ _ _ => (pg_name (i := 1) sc_lots_from.nd rfl (by first | exact Or.inl rfl | exact Or.inr rfl))) (fun _ _ _ _ _ => pts_nil) (fun _ _ _ _ _ => (pe_c c_lot_from hr (by decide) rfl (pa_cons (pv 1) pa_nil)))) pa_nil)))), ?_⟩
    refine el_sortLots (el_lots lotF (ev_v 0) hs (by omega) (fun _ => rfl) (fun n H1 e hn => eu_call (ea_cons (ev_v 1) ea_nil) (fun H2 e2 Q2 q2 E2 => ⟨n, rfl, hb n hn, q2⟩))) H (Ex.refl H) _ (fun M h1 h2 => q M h1 h2)
end
end W7
end
section
namespace W7
open PySem PySem.Spec PyProof.Rows L2 L3 Evl
open C8 (Cal pe_c Mak pe_mk Met pe_mt pe_mt0)
structure FC (K : PySem.W.Frag) (CF : Addr) : Prop where
  cls : Cls K CF
  a1 : NoAttr K CF "size"
  a2 : NoAttr K CF "lots"
  a3 : NoAttr K CF "_inside"
def FamAt (H : Hp) (CF : Addr) (a : Addr) (size : Nat) (fm : List Nat) : Prop := ∃ dx fs tl rs, H a = some (.ins CF dx fs) ∧ fs.lookup ("size" : Str) = some (.int (size : Nat)) ∧ fs.lookup ("lots" : Str) = some (.ref tl) ∧ fs.lookup ("depth" : Str) = none ∧ H tl = some (.tup rs) ∧ Lots H rs (fm.map lotF)
theorem FamAt.ex {H H' : Hp} {CF a : Addr} {size : Nat} {fm : List Nat} (h : FamAt H CF a size fm) (e : Ex H H') : FamAt H' CF a size fm := by
  obtain ⟨dx, fs, tl, rs, h1, h2, h3, h4, h5, h6⟩ := h
  exact ⟨dx, fs, tl, rs, e _ _ h1, h2, h3, h4, e _ _ h5, h6.ex e⟩
structure FamOk (size : Nat) (fm : List Nat) : Prop where
  s1 : 1 ≤ size
  s5 : size ≤ 5
  ne : fm ≠ []
  lt : ∀ m ∈ fm, m < 1 <<< size
  len : fm.length ≤ 64
theorem FamOk.lt64 {size : Nat} {fm : List Nat} (o : FamOk size fm) : ∀ m ∈ fm, m < 64 := fun m hm => Nat.lt_of_lt_of_le (o.lt m hm) (pow64 (by have := o.s5; omega))
theorem orF_lot : ∀ n : Nat, n < 64 → orF (lotF n) = n := by decide +kernel
theorem lotF_lt {n x : Nat} (h : x ∈ lotF n) : x < 12 := List.mem_range.mp (List.mem_filter.mp h).1
section
variable {K : PySem.W.Frag} {σ : L2.St} {H H' : Hp} {ta tb tc te tl : TE} {v : V} {t : TT}
theorem ev_fld {f : Str} {a C dx : Addr} {fs : List (Str × V)} (ha : Ev ta σ H (.ref a)) (h : H a = some (.ins C dx fs)) (c : Cls K C) (n : NoAttr K C f) (l : fs.lookup f = some v) : Ev (tFld K ta f) σ H v := fun H1 e Q q => ha H1 e _ fun H2 e2 => ⟨a, C, dx, fs, v, rfl, (e.trans e2) _ _ h, c, n, l, q H2 e2⟩
theorem ev_size {a CF : Addr} {size : Nat} {fm : List Nat} (h : FamAt H CF a size fm) (C : FC K CF) (ha : Ev ta σ H (.ref a)) : Ev (tFld K ta "size") σ H (.int (size : Nat)) := by
  obtain ⟨dx, fs, tl, rs, h1, h2, h3, h4, h5, h6⟩ := h
  exact ev_fld ha h1 C.cls C.a1 h2
theorem et_truth {n : Nat} (h : Ev te σ H (.int (n : Nat))) : EvT (fun σ H Q => te σ H fun x H' => ∃ k, TruV K x H' k ∧ Q k H') σ H (decide (n ≠ 0)) := fun H1 e Q q => h H1 e _ fun H2 e2 => ⟨_, rfl, by
  have e : (((n : Nat) : Int) != 0) = decide (n ≠ 0) := by
    by_cases h : n = 0
    · simp [h]
    · have : ((n : Nat) : Int) ≠ 0 := by omega
      simp only [bne_iff_ne, ne_eq, this, not_false_eq_true, h, decide_true]
  rw [e]
  exact q H2 e2⟩
theorem ret_callL0 {sp : Sp} {E : XK} {D : Ends} {xs : List V} (h : EvL tl σ H xs) (k : ∀ p H1, H p = none → Ex H H1 → H1 p = some (.lst xs) → sp [.ref p] H1 D.rt E) : tRet (tCall sp [] E (tCons tl tNil)) D σ H := h H (Ex.refl H) _ fun p H1 hp e h1 => k p H1 hp e h1
/-- [f(r) for r in t], t a tuple of lots -/
theorem el_lotsT {a : Addr} {rs : List V} {L : List (List Nat)} {j : Nat} {vs : List Nat} (G : List Nat → V) (h : Ev tl σ H (.ref a)) (hx : SqT K H a rs) (hL : Lots H rs L) (hz : L.length ≤ 40000) (hw : ∀ x, wipe ((wipe σ vs).set j (some x)) vs = wipe σ vs)
    (he : ∀ (r : V) (ns : List Nat) H1, Ex H H1 → TupV H1 r ns → ns ∈ L → Ev te ((wipe σ vs).set j (some r)) H1 (G ns)) :
    EvL (tLc (iTup K tl) (gName j) tYes te vs) σ H (L.map G) := fun H0 e Q q => h H0 e _ fun H1 e1 => ⟨a, rfl, ⟨rs, ex_t (e.trans e1) hx⟩, fun Dl hD =>
  lc_tup (xs := rs) (fun i H' => H1 Dl = none ∧ Ex H1 H' ∧ H' Dl = some (.lst ((L.take i).map G))) ⟨hD, Ex.new hD, upd_same⟩ (fun i H' _ p => ex_t ((e.trans e1).trans p.2.1) hx) (fun i x H' hi ⟨p1, p2, p3⟩ => ⟨hw x, by
    have hl : i < L.length := by rw [← hL.1]; exact (List.getElem?_eq_some_iff.mp hi).1
    have hn : L[i]? = some L[i] := List.getElem?_eq_some_iff.mpr ⟨hl, rfl⟩
    show te ((wipe σ vs).set j (some x)) H' _
    refine he x L[i] H1 (e.trans e1) ((hL.2 i x _ hi hn).ex (e.trans e1)) (List.getElem_mem hl) H' p2 _ fun H4 e4 => ⟨_, e4 _ _ p3, ?_, p1, Ex.mut (p2.trans e4) p1, ?_⟩
    · rw [List.length_map, List.length_take]; exact sz_lt (by omega)
    · rw [upd_same, List.take_add_one, hn, Option.toList_some, List.map_append]; rfl⟩) (fun H' ⟨p1, p2, p3⟩ => q Dl H' (fresh_back e1 p1) (e1.trans p2) (by rw [hL.1, List.take_length] at p3; exact p3))⟩
end
section
variable {P : Program} {w : World} {K : PySem.W.Frag} {mg : Str → Option Value} {base : Heap} {f : Addr} {fd : FuncData} {CF : Addr}
def cntF : Nat → List Nat
  | 0 => [0]
  | k + 1 => cntF k ++ (cntF k).map (· + 1)
theorem cnt_len : ∀ k, (cntF k).length = 1 <<< k
  | 0 => rfl
  | k + 1 => by rw [cntF, List.length_append, List.length_map, cnt_len k, Nat.one_shiftLeft, Nat.one_shiftLeft, Nat.pow_succ]; omega
theorem sums_len : ∀ (ns s : List Nat), (ns.foldl (fun s n => s ++ s.map (· + n)) s).length = s.length * 2 ^ ns.length
  | [], s => by simp
  | n :: ns, s => by
    rw [List.foldl_cons, sums_len ns, List.length_append, List.length_map, List.length_cons, Nat.pow_succ]
    have : s.length + s.length = s.length * 2 := by omega
    rw [this, Nat.mul_assoc, Nat.mul_comm 2]
def sumsF (ns : List Nat) : List Nat := ns.foldl (fun s n => s ++ s.map (· + n)) [0]
theorem sumsF_len (ns : List Nat) : (sumsF ns).length = 2 ^ ns.length := by
  unfold sumsF
  rw [sums_len]; simp
theorem sumsF_take {ns : List Nat} {i n : Nat} (h : ns[i]? = some n) : sumsF (ns.take (i + 1)) = sumsF (ns.take i) ++ (sumsF (ns.take i)).map (· + n) := by
  unfold sumsF
  rw [List.take_add_one, h, Option.toList_some, List.foldl_append]; rfl
theorem sums_cnt : ∀ k, sumsF (List.replicate k 1) = cntF k
  | 0 => rfl
  | k + 1 => by
    rw [List.replicate_succ', cntF, ← sums_cnt k]
    unfold sumsF
    rw [List.foldl_append]; rfl
def spSums (K : PySem.W.Frag) : Sp := fun vs H Q _ => ∃ (a : Addr) (ns : List Nat), vs = [.ref a] ∧ SqL K H a (nv ns) ∧ ns.length ≤ 6 ∧ RetL (nv (sumsF ns)) H Q
theorem sc_mask_sums : FnScope ["numbers", "sums", "number", "part"] ["numbers"] (defScope (top 21)) := ⟨rfl, rfl, rfl, by decide +kernel, rfl, by decide +kernel, by decide +kernel⟩
theorem c_mask_sums (F : FnP K "mask_sums" (top 21) f fd) (g : mg "mask_sums" = some (.ref f)) (B : Bi mg) : Cal P w K mg base 1 "mask_sums" (spSums K) [] := by
  refine mkCal F g sc_mask_sums (fun _ _ _ _ _ _ us hl => match us, hl with | [_], _ => rfl) (fun vs H Q E h => ?_) (fun cdv A outer s H vs Q E hr h => ?_)
  · obtain ⟨a, ns, rfl, _⟩ := h
    rfl
  · obtain ⟨a, ns, rfl, hs, h6, q⟩ := h
    have hp : ∀ i, i ≤ ns.length → (sumsF (ns.take i)).length ≤ 64 := fun i hi => by
      rw [sumsF_len, List.length_take, Nat.min_eq_left hi]
      exact Nat.le_trans (Nat.pow_le_pow_right (by decide) (Nat.le_trans hi h6)) (by decide)
    refine ⟨_, (pss_cons (ps_set (i := 1) sc_mask_sums.nd rfl (by first | exact Or.inl rfl | exact Or.inr rfl) (pe_lst (pa_cons (pe_nat 0 pe_int) pa_nil))) (pss_cons (ps_for PassesOwn.never rfl (pi_list (pv 0)) (pg_name (i := 2) sc_mask_sums.nd rfl (by first | exact Or.inl rfl | exact Or.inr rfl)) (pss_one (ps_set (i := 1) sc_mask_sums.nd rfl (by first | exact Or.inl rfl | exact Or.inr rfl) (pe_op op_cat (pv 1) (pe_lc (own := [("part", 3)]) (g := gName 3) (by rfl) sc_mask_sums.nd (pi_list (pv 1)) (blkOk_by (own := [("part", 3)]) (N := ["numbers", "sums", "number", "part"]) (sc := defScope (top 21)) (by decide +kernel)) (fun _ _ _ _ _ => (pg_name (i := 3) sc_mask_sums.nd rfl (by first | exact Or.inl rfl | exact Or.inr rfl))) (fun _ _ _ _ _ => pts_nil) (fun _ _ _ _ _ => (pe_op on_add (pv 3) (pv 2)))))))) (pss_one (ps_ret (pv 1))))), ?_⟩
    refine q_asgL (el_lst (ea_cons ev_c ea_nil) (by decide : 1 ≤ 100000)) fun c0 H1 hc0 e1 h1 => ?_
    refine q_forLN (K := K) (H0 := H) (ns := ns) (ev_v 0) hs e1 (fun i σ H' => Ex H H' ∧ ∃ c v2 v3, H c = none ∧ H' c = some (.lst (nv (sumsF (ns.take i)))) ∧ σ = [some (.ref a), some (.ref c), v2, v3]) (fun H2 e2 => ⟨e1.trans e2, c0, _, _, hc0, e2 _ _ h1, rfl⟩) (fun i σ H' p => p.1) ?_ ?_
    · rintro i n σ H' hn ⟨e0, c, v2, v3, hc, h2, rfl⟩
      have hi := (List.getElem?_eq_some_iff.mp hn).1
      have hp2 := hp i (by omega)
      refine ⟨.ref c, rfl, ?_⟩
      have el : EvL (tLc (iList K (tVar 1)) (gName 3) tYes (tOp (rN0 fun a b => .int ((a + b : Nat) : Int)) (tVar 3) (tVar 2)) [3]) [some (.ref a), some (.ref c), some (.int (n : Int)), v3] H' (nv ((sumsF (ns.take i)).map (· + n))) := by
        rw [nv_map]
        exact el_nats (fun _ => true) (fun m => .int ((m + n : Nat) : Int)) (ev_v 1) (sq_of h2) (by omega) (fun _ => rfl) (fun _ _ _ _ => et_yes) (fun m H1 e hm _ => ev_n (ev_v 3) (ev_v 2))
      refine el H' (Ex.refl _) _ fun d H3 hd e3 h3 => ⟨c, d, _, _, rfl, rfl, e3 _ _ h2, h3, ?_, fun r hr => ?_⟩
      · rw [nv_len, nv_len, List.length_map]; exact sz_of (by omega)
      · refine ⟨(e0.trans e3).trans (Ex.new hr), r, some (.int (n : Int)), v3, fresh_back (e0.trans e3) hr, ?_, rfl⟩
        rw [upd_same, sumsF_take hn]
        unfold nv
        rw [List.map_append]
    · rintro σ H' ⟨e0, c, v2, v3, hc, h2, rfl⟩
      rw [List.take_length] at h2
      exact s_ret (ev_v 1) fun H2 e2 => q c H2 hc (e0.trans e2) (e2 _ _ h2)
def spCounts : Sp := fun vs H Q _ => ∃ size : Nat, vs = [.int size] ∧ size ≤ 6 ∧ RetL (nv (cntF size)) H Q
theorem sc_thing_counts : FnScope ["size", "_"] ["size"] (defScope (top 22)) := ⟨rfl, rfl, rfl, by decide +kernel, rfl, by decide +kernel, by decide +kernel⟩
theorem c_thing_counts (F : FnP K "thing_counts" (top 22) f fd) (g : mg "thing_counts" = some (.ref f)) (B : Bi mg) (c_mask_sums : Cal P w K mg base 1 "mask_sums" (spSums K) []) : Cal P w K mg base 2 "thing_counts" spCounts [] := by
  refine mkCal F g sc_thing_counts (fun _ _ _ _ _ _ us hl => match us, hl with | [_], _ => rfl) (fun vs H Q E h => ?_) (fun cdv A outer s H vs Q E hr h => ?_)
  · obtain ⟨n, rfl, _⟩ := h
    rfl
  · obtain ⟨size, rfl, h6, q⟩ := h
    refine ⟨_, (pss_one (ps_ret (pe_c c_mask_sums hr (by decide) rfl (pa_cons (pe_lc (own := [("_", 1)]) (g := gName 1) (by rfl) sc_thing_counts.nd (pi_range1 rfl B.range (pa_cons (pv 0) pa_nil)) (blkOk_by (own := [("_", 1)]) (N := ["size", "_"]) (sc := defScope (top 22)) (by decide +kernel)) (fun _ _ _ _ _ => (pg_name (i := 1) sc_thing_counts.nd rfl (by first | exact Or.inl rfl | exact Or.inr rfl))) (fun _ _ _ _ _ => pts_nil) (fun _ _ _ _ _ => (pe_nat 1 pe_int))) pa_nil)))), ?_⟩
    have el : EvL (tLc (iRng1 (tCons (tVar 0) tNil)) (gName 1) tYes (tC (.int ((1 : Nat) : Int))) (List.map (fun x => x.snd) [(Str.ofString "_", 1)])) [some (.int size), none] H (nv (List.replicate size 1)) := by
      have e1 : nv (List.replicate size 1) = ((List.range size).filter fun _ => true).map fun _ => V.int ((1 : Nat) : Int) := by
        unfold nv
        rw [List.map_replicate, List.filter_eq_self.mpr (fun _ _ => rfl), List.map_const', List.length_range]
      rw [e1]
      exact el_rng (fun _ => true) (fun _ => .int ((1 : Nat) : Int)) (ea_cons (ev_v 0) ea_nil) (by omega) (fun _ => rfl) (fun _ _ _ _ => et_yes) (fun _ _ _ _ _ => ev_c)
    refine ret_callL0 el fun d H3 hd e3 h3 => ⟨d, List.replicate size 1, rfl, sq_of h3, by simp; omega, fun p H4 hp e4 h4 => ?_⟩
    rw [sums_cnt] at h4
    exact q p H4 (fresh_back e3 hp) (e3.trans e4) h4
def spFm (K : PySem.W.Frag) (CF : Addr) (xs : Nat → List Nat → List V) : Sp := fun vs H Q _ => ∃ (a : Addr) (size : Nat) (fm : List Nat), vs = [.ref a] ∧ FamAt H CF a size fm ∧ FamOk size fm ∧ RetL (xs size fm) H Q
theorem sc_family_masks : FnScope ["family", "lot"] ["family"] (defScope (top 23)) := ⟨rfl, rfl, rfl, by decide +kernel, rfl, by decide +kernel, by decide +kernel⟩
theorem c_family_masks (C : FC K CF) (F : FnP K "family_masks" (top 23) f fd) (g : mg "family_masks" = some (.ref f)) (B : Bi mg) (c_mask_of : Cal P w K mg base 1 "mask_of" spMaskOf []) : Cal P w K mg base 2 "family_masks" (spFm K CF fun _ fm => nv fm) [] := by
  refine mkCal F g sc_family_masks (fun _ _ _ _ _ _ us hl => match us, hl with | [_], _ => rfl) (fun vs H Q E h => ?_) (fun cdv A outer s H vs Q E hr h => ?_)
  · obtain ⟨a, size, fm, rfl, _⟩ := h
    rfl
  · obtain ⟨a, size, fm, rfl, hf, ok, q⟩ := h
    refine ⟨_, (pss_one (ps_ret (pe_lc (own := [("lot", 1)]) (g := gName 1) (by rfl) sc_family_masks.nd (pi_tup (pe_fld (pv 0) rfl)) (blkOk_by (own := [("lot", 1)]) (N := ["family", "lot"]) (sc := defScope (top 23)) (by decide +kernel)) (fun _ _ _ _ _ => (pg_name (i := 1) sc_family_masks.nd rfl (by first | exact Or.inl rfl | exact Or.inr rfl))) (fun _ _ _ _ _ => pts_nil) (fun _ _ _ _ _ => (pe_c c_mask_of hr (by decide) rfl (pa_cons (pv 1) pa_nil)))))), ?_⟩
    obtain ⟨dx, fs, tl, rs, h1, h2, h3, h4, h5, h6⟩ := hf
    refine s_retL (el_lotsT (fun ns => .int (orF ns : Nat)) (ev_fld (ev_v 0) h1 C.cls C.a2 h3) (st_of h5) h6 (by rw [List.length_map]; have := ok.len; omega) (fun _ => rfl) (fun r ns H1 e hr hns => ?_)) fun p H2 hp e2 hh => q p H2 hp e2 ?_
    · obtain ⟨b, rfl, hb⟩ := hr
      obtain ⟨m, hm, rfl⟩ := List.mem_map.mp hns
      exact ev_call (ea_cons (ev_v 1) ea_nil) (fun H2 e2 Q2 q2 E2 => ⟨b, lotF m, rfl, .inr (e2 _ _ hb), fun x hx => by have := lotF_lt hx; omega, q2⟩)
    · rw [hh]
      unfold nv
      rw [List.map_map]
      refine congrArg some (congrArg HO.lst (List.map_congr_left fun m hm => ?_))
      show V.int ((orF (lotF m) : Nat) : Int) = _
      rw [orF_lot m (ok.lt64 m hm)]
theorem sc_inside_row : FnScope ["family", "inside", "_", "mask"] ["family"] (defScope (top 24)) := ⟨rfl, rfl, rfl, by decide +kernel, rfl, by decide +kernel, by decide +kernel⟩
theorem c_inside_row (C : FC K CF) (F : FnP K "inside_row" (top 24) f fd) (g : mg "inside_row" = some (.ref f)) (B : Bi mg) (c_family_masks : Cal P w K mg base 2 "family_masks" (spFm K CF fun _ fm => nv fm) []) : Cal P w K mg base 3 "inside_row" (spFm K CF fun size fm => bv (insF size fm)) [] := by
  refine mkCal F g sc_inside_row (fun _ _ _ _ _ _ us hl => match us, hl with | [_], _ => rfl) (fun vs H Q E h => ?_) (fun cdv A outer s H vs Q E hr h => ?_)
  · obtain ⟨a, size, fm, rfl, _⟩ := h
    rfl
  · obtain ⟨a, size, fm, rfl, hf, ok, q⟩ := h
    have h64 := pow64 (n := size) (by have := ok.s5; omega)
    have hz := ok.s5
    refine ⟨_, (pss_cons (ps_setLc (i := 1) (own := [("_", 2)]) (g := gName 2) (by rfl) sc_inside_row.nd rfl rfl (sw_true rfl rfl rfl (by decide +kernel)) (pi_range1 rfl B.range (pa_cons (pe_op on_shl (pe_nat 1 pe_int) (pe_fld (pv 0) rfl)) pa_nil)) (blkOk_by (own := [("_", 2)]) (N := ["family", "inside", "_", "mask"]) (sc := defScope (top 24)) (by decide +kernel)) (fun _ _ _ _ _ => (pg_name (i := 2) sc_inside_row.nd rfl (by first | exact Or.inl rfl | exact Or.inr rfl))) (fun _ _ _ _ _ => pts_nil) (fun _ _ _ _ _ => pe_bl)) (pss_cons (ps_for PassesOwn.never rfl (pi_list (pe_c c_family_masks hr (by decide) rfl (pa_cons (pv 0) pa_nil))) (pg_name (i := 3) sc_inside_row.nd rfl (by first | exact Or.inl rfl | exact Or.inr rfl)) (pss_one (ps_asg pe_bl (pg_sub (pv 1) (pv 3) set_list)))) (pss_one (ps_ret (pv 1))))), ?_⟩
    refine q_asgL (el_rng (n := 1 <<< size) (fun _ => true) (fun _ => .bl false) (ea_cons (ev_nc ev_c (ev_size hf C (ev_v 0)) ⟨by decide, by omega⟩) ea_nil) (by omega) (fun _ => rfl) (fun _ _ _ _ => et_yes) (fun _ _ _ _ _ => ev_c)) fun r H1 hr1 e1 h1 => ?_
    refine ⟨.ref a, rfl, a, size, fm, rfl, hf.ex e1, ok, fun p H2 hp e2 hp2 => ⟨p, rfl, ⟨_, sq_of hp2⟩, ?_⟩⟩
    have e12 := e1.trans e2
    refine for_list (xs := nv fm) (fun i σ H' => Ex H H' ∧ H' p = some (.lst (nv fm)) ∧ H' r = some (.lst (bv ((List.range (1 <<< size)).map fun n => decide (n ∈ fm.take i)))) ∧ ∃ v v2, σ = [some (.ref a), some (.ref r), v, v2]) ⟨e12, hp2, ?_, _, _, rfl⟩ (fun i σ H' _ h => sq_of h.2.1) ?_ ?_
    · rw [e2 _ _ h1]
      unfold bv
      rw [List.map_map, List.filter_eq_self.mpr (fun _ _ => rfl)]
      refine congrArg some (congrArg HO.lst (List.map_congr_left fun a _ => ?_))
      simp
    · rintro i x σ H' hx ⟨e0, h0, h2, v, v2, rfl⟩
      obtain ⟨n, hn, rfl⟩ := nv_get hx
      have hn1 := ok.lt n (List.mem_of_getElem? hn)
      have hpr : p ≠ r := fun e => by rw [e, h1] at hp; cases hp
      show tAsg _ _ _ [some (.ref a), some (.ref r), v, some (.int n)] H'
      refine s_setL h2 ev_c (ev_v 1) (ev_v 3) (by rw [bv_len, List.length_map, List.length_range]; exact hn1) fun H3 e3 => ⟨Ex.mut (e0.trans e3) hr1, by rw [upd_ne hpr]; exact e3 _ _ h0, ?_, _, _, rfl⟩
      rw [upd_same]
      congr 2
      refine map_set hn1 fun k => ?_
      rw [List.take_add_one, hn]
      by_cases hk : k = n
      · simp [hk]
      · simp [hk]
    · rintro σ H' ⟨e0, h0, h2, v, v2, rfl⟩
      rw [nv_len, List.take_length] at h2
      refine s_ret (ev_v 1) fun H3 e3 => q r H3 hr1 (e0.trans e3) (e3 _ _ h2)
theorem cnt_bits : ∀ k : Nat, k < 7 → ∀ n : Nat, n < 1 <<< k → (cntF k)[n]? = some (bits n) := by decide +kernel
def spFmT (K : PySem.W.Frag) (CF : Addr) (xs : List Nat → Nat → List Nat) : Sp := fun vs H Q _ => ∃ (a : Addr) (size : Nat) (fm : List Nat) (t : Nat), vs = [.ref a, .int t] ∧ FamAt H CF a size fm ∧ FamOk size fm ∧ t < 1 <<< size ∧ RetL (nv (xs fm t)) H Q
end
end W7
end
section
namespace W7
open PySem PySem.Spec PyProof.Rows L2 L3 Evl
open C8 (Cal pe_c Mak pe_mk Met pe_mt pe_mt0)
section
variable {K : PySem.W.Frag} {σ : L2.St} {H H' : Hp} {ta tb tc te tl : TE} {v z : V} {t : TT}
theorem ev_callU {sp : Sp} {E : XK} {xs : List V} (h : EvU te σ H xs) (hs : ∀ p H1, H1 p = some (.tup xs) → Ex H H1 → SpV sp [.ref p] H1 z) : Ev (tCall sp [] E (tCons te tNil)) σ H z := fun H1 e Q q =>
  h H1 e _ fun p H2 hp e2 h2 => hs p H2 h2 (e.trans e2) H2 (Ex.refl _) Q (fun H3 e3 => q H3 (e2.trans e3)) E
theorem ret_callL {sp : Sp} {E : XK} {D : Ends} {xs : List V} (h : EvL tl σ H xs) (k : ∀ p H1, H p = none → Ex H H1 → H1 p = some (.lst xs) → sp [.ref p] H1 D.rt E) : tRet (tCall sp [] E (tCons tl tNil)) D σ H := h H (Ex.refl H) _ fun p H1 hp e h1 => k p H1 hp e h1
theorem ev_callL {sp : Sp} {E : XK} {xs : List V} (h : EvL te σ H xs) (hs : ∀ p H1, H1 p = some (.lst xs) → Ex H H1 → SpV sp [.ref p] H1 z) : Ev (tCall sp [] E (tCons te tNil)) σ H z := fun H1 e Q q =>
  h H1 e _ fun p H2 hp e2 h2 => hs p H2 h2 (e.trans e2) H2 (Ex.refl _) Q (fun H3 e3 => q H3 (e2.trans e3)) E
end
theorem lot_lt {t size x : Nat} (h : t < 1 <<< size) (hx : x ∈ lotF t) : x < size := by
  have h1 := (List.mem_filter.mp hx).2
  refine Nat.lt_of_not_le fun hk => ?_
  rw [Nat.one_shiftLeft] at h
  have := Nat.testBit_lt_two_pow (Nat.lt_of_lt_of_le h (Nat.pow_le_pow_right (by decide) hk))
  rw [this] at h1; cases h1
theorem lot_asc (t : Nat) : (lotF t).Pairwise (· < ·) := List.Pairwise.filter _ List.pairwise_lt_range
theorem lot_ok {t size : Nat} (h : t < 1 <<< size) (hz : size ≤ 12) : LotOk size (lotF t) ∧ (lotF t).Pairwise (· ≤ ·) :=
  ⟨⟨(lot_asc t).imp fun h => by omega, fun n hn => lot_lt h hn, hz⟩, (lot_asc t).imp fun h => by omega⟩
def lowF (size : Nat) (fm : List Nat) (m : Nat) : Nat := orF ((List.range size).filter fun x => decide ((m ^^^ (1 <<< x)) ∈ fm))
def RowsOk (size : Nat) (fm : List Nat) : Prop := ∀ o, o < 1 <<< size → lowF size fm o ≠ 0 → o ∉ fm → ∀ m ∈ fm, (m ^^^ o) &&& lowF size fm o ≠ 0
def AllE (H : Hp) (kvs : List (Key × V)) : Prop := ∀ kv ∈ kvs, ∃ l, kv.2 = .ref l ∧ H l = some (.lst [])
theorem AllE.ex {H H' : Hp} {kvs : List (Key × V)} (h : AllE H kvs) (e : Ex H H') : AllE H' kvs := fun kv hk => (h kv hk).elim fun l z => ⟨l, z.1, e _ _ z.2⟩
theorem putK_mem {kvs : List (Key × V)} {k : Key} {v : V} {kv : Key × V} (h : kv ∈ putK kvs k v) : kv ∈ kvs ∨ kv.2 = v := by
  unfold putK at h
  by_cases c : (kvs.any fun kv => decide (kv.1 = k)) = true
  · rw [if_pos c] at h
    obtain ⟨x, hx, rfl⟩ := List.mem_map.mp h
    by_cases e : x.1 = k
    · rw [if_pos e]; exact .inr rfl
    · rw [if_neg e]; exact .inl hx
  · rw [if_neg c] at h
    obtain h | h := List.mem_append.mp h
    · exact .inl h
    · rw [List.mem_singleton.mp h]; exact .inr rfl
theorem putK_len {kvs : List (Key × V)} {k : Key} {v : V} : (putK kvs k v).length ≤ kvs.length + 1 := by
  unfold putK
  split <;> simp
theorem valV_mem {kvs : List (Key × V)} {k : Key} {v : V} (h : valV kvs k = some v) : ∃ kv ∈ kvs, kv.2 = v := by
  unfold valV at h
  cases e : kvs.find? (fun kv => decide (kv.1 = k)) with
  | none => exact absurd (e ▸ h) (by simp)
  | some kv => rw [e] at h; cases h; exact ⟨kv, List.mem_of_find?_eq_some e, rfl⟩
section
variable {P : Program} {w : World} {K : PySem.W.Frag} {mg : Str → Option Value} {base : Heap} {f : Addr} {fd : FuncData} {CF : Addr}
def spNearest (CF : Addr) : Sp := fun vs H Q _ => ∃ (a p : Addr) (size : Nat) (fm : List Nat) (t : Nat), vs = [.ref a, .ref p] ∧ FamAt H CF a size fm ∧ FamOk size fm ∧ t < 1 <<< size ∧ LotA H p (lotF t) ∧ ∀ L : List (List Nat), L.Perm ((nearF fm t).map lotF) → L.Pairwise lexLe → RetLots L H Q
theorem near_len {fm : List Nat} {t : Nat} : (nearF fm t).length ≤ fm.length := List.length_filter_le _ _
def spLow : Sp := fun vs H Q _ => ∃ (size : Nat) (p : Addr) (fm : List Nat) (m : Nat), vs = [.int size, .ref p, .int m] ∧ size ≤ 5 ∧ H p = some (.lst (bv (insF size fm))) ∧ m < 1 <<< size ∧ RetV (.int (lowF size fm m : Nat)) H Q
theorem sc_lowering_mask : FnScope ["size", "inside", "mask", "thing"] ["size", "inside", "mask"] (defScope (top 35)) := ⟨rfl, rfl, rfl, by decide +kernel, rfl, by decide +kernel, by decide +kernel⟩
theorem c_lowering_mask (F : FnP K "lowering_mask" (top 35) f fd) (g : mg "lowering_mask" = some (.ref f)) (B : Bi mg) (c_mask_of : Cal P w K mg base 1 "mask_of" spMaskOf []) : Cal P w K mg base 2 "lowering_mask" spLow [] := by
  refine mkCal F g sc_lowering_mask (fun _ _ _ _ _ _ us hl => match us, hl with | [_, _, _], _ => rfl) (fun vs H Q E h => ?_) (fun cdv A outer s H vs Q E hr h => ?_)
  · obtain ⟨size, p, fm, m, rfl, _⟩ := h
    rfl
  · obtain ⟨size, p, fm, m, rfl, hz, hp, hm, q⟩ := h
    refine ⟨_, (pss_one (ps_ret (pe_c c_mask_of hr (by decide) rfl (pa_cons (pe_lc (own := [("thing", 3)]) (g := gName 3) (by rfl) sc_lowering_mask.nd (pi_range1 rfl B.range (pa_cons (pv 0) pa_nil)) (blkOk_by (own := [("thing", 3)]) (N := ["size", "inside", "mask", "thing"]) (sc := defScope (top 35)) (by decide +kernel)) (fun _ _ _ _ _ => (pg_name (i := 3) sc_lowering_mask.nd rfl (by first | exact Or.inl rfl | exact Or.inr rfl))) (fun _ _ _ _ _ => (pts_one (pt_val (pe_ix (on_ix (K := K)) (pv 1) (pe_op on_xor (pv 2) (pe_op on_shl (pe_nat 1 pe_int) (pv 3))) (fun _ _ => rfl))))) (fun _ _ _ _ _ => (pv 3))) pa_nil)))), ?_⟩
    refine s_ret (ev_callL (el_rng (n := size) (fun x => decide ((m ^^^ (1 <<< x)) ∈ fm)) (fun x => .int (x : Nat)) (ea_cons (ev_v 0) ea_nil) (by omega) (fun _ => rfl) (fun x H1 e hx => et_B (ev_ix (sq_of (e _ _ hp)) (ev_v 1) (ev_n (ev_v 2) (ev_nc ev_c (ev_v 3) ⟨by decide, by omega⟩)) (insF_get (xor_lt_sh hm (one_lt_sh hx))))) (fun x H1 e hx _ => ev_v 3)) fun r H1 h1 e1 H2 e2 Q2 q2 E2 => ?_) q
    exact ⟨r, _, rfl, .inl (e2 _ _ h1), fun x hx => by have := List.mem_range.mp (List.mem_filter.mp hx).1; omega, q2⟩
def spUngated (CF : Addr) : Sp := fun vs H Q _ => ∃ (a : Addr) (size : Nat) (fm : List Nat), vs = [.ref a] ∧ FamAt H CF a size fm ∧ FamOk size fm ∧ RowsOk size fm ∧ ∀ d H' kvs, H d = none → Ex H H' → H' d = some (.dK kvs) → AllE H' kvs → Q (.ref d) H'
theorem sc_ungated_rows : FnScope ["family", "masks", "inside", "rows", "outer", "lowering", "mask"] ["family"] (defScope (top 36)) := ⟨rfl, rfl, rfl, by decide +kernel, rfl, by decide +kernel, by decide +kernel⟩
theorem c_ungated_rows (C : FC K CF) (F : FnP K "ungated_rows" (top 36) f fd) (g : mg "ungated_rows" = some (.ref f)) (B : Bi mg) (c_family_masks : Cal P w K mg base 2 "family_masks" (spFm K CF fun _ fm => nv fm) []) (c_inside_row : Cal P w K mg base 3 "inside_row" (spFm K CF fun size fm => bv (insF size fm)) []) (c_lowering_mask : Cal P w K mg base 2 "lowering_mask" spLow []) : Cal P w K mg base 4 "ungated_rows" (spUngated CF) [] := by
  refine mkCal F g sc_ungated_rows (fun _ _ _ _ _ _ us hl => match us, hl with | [_], _ => rfl) (fun vs H Q E h => ?_) (fun cdv A outer s H vs Q E hr h => ?_)
  · obtain ⟨a, size, fm, rfl, _⟩ := h
    rfl
  · obtain ⟨a, size, fm, rfl, hf, ok, hro, q⟩ := h
    have hz := ok.s5
    have h64 := pow64 (n := size) (by omega)
    refine ⟨_, (pss_cons (ps_set (i := 1) sc_ungated_rows.nd rfl (by first | exact Or.inl rfl | exact Or.inr rfl) (pe_c c_family_masks hr (by decide) rfl (pa_cons (pv 0) pa_nil))) (pss_cons (ps_set (i := 2) sc_ungated_rows.nd rfl (by first | exact Or.inl rfl | exact Or.inr rfl) (pe_c c_inside_row hr (by decide) rfl (pa_cons (pv 0) pa_nil))) (pss_cons (ps_set (i := 3) sc_ungated_rows.nd rfl (by first | exact Or.inl rfl | exact Or.inr rfl) pe_dnewK) (pss_cons (ps_for PassesOwn.never rfl (pi_range1 rfl B.range (pa_cons (pe_callB call_len_seq (by rfl) B.len (by decide +kernel) (pa_cons (pv 2) pa_nil)) pa_nil)) (pg_name (i := 4) sc_ungated_rows.nd rfl (by first | exact Or.inl rfl | exact Or.inr rfl)) (pss_cons (ps_set (i := 5) sc_ungated_rows.nd rfl (by first | exact Or.inl rfl | exact Or.inr rfl) (pe_c c_lowering_mask hr (by decide) rfl (pa_cons (pe_fld (pv 0) rfl) (pa_cons (pv 2) (pa_cons (pv 4) pa_nil))))) (pss_one (ps_if (PW.pt (pw_and (pt_truthK (K := K) rfl (pv 5) (fun _ => rfl)) (pw_and1 (pt_not (pt_val (pe_ix (on_ix (K := K)) (pv 2) (pv 4) (fun _ _ => rfl))))))) (pss_one (ps_dput (hu_of hr) (pv 3) (pv 4) (pe_lc (own := [("mask", 6)]) (g := gName 6) (by rfl) sc_ungated_rows.nd (pi_list (pv 1)) (blkOk_by (own := [("mask", 6)]) (N := ["family", "masks", "inside", "rows", "outer", "lowering", "mask"]) (sc := defScope (top 36)) (by decide +kernel)) (fun _ _ _ _ _ => (pg_name (i := 6) sc_ungated_rows.nd rfl (by first | exact Or.inl rfl | exact Or.inr rfl))) (fun _ _ _ _ _ => (pts_one (pt_not (pt_truthK (K := K) rfl (pe_op on_and (pe_op on_xor (pv 6) (pv 4)) (pv 5)) (fun _ => rfl))))) (fun _ _ _ _ _ => (pv 6))) rfl)) pss_nil)))) (pss_one (ps_ret (pv 3))))))), ?_⟩
    refine q_asgL (el_call (ea_cons (ev_v 0) ea_nil) fun H2 e2 Q2 q2 E2 => ⟨a, size, fm, rfl, hf.ex e2, ok, q2⟩) fun p H1 hp1 e1 h1 => ?_
    refine q_asgL (el_call (ea_cons (ev_v 0) ea_nil) fun H2 e2 Q2 q2 E2 => ⟨a, size, fm, rfl, (hf.ex e1).ex e2, ok, q2⟩) fun r H2 hr2 e2 h2 => ?_
    intro d hd
    have hdH : H d = none := fresh_back (e1.trans e2) hd
    have hil : (bv (insF size fm)).length = 1 <<< size := by rw [bv_len]; unfold insF; simp
    have ed := Ex.new (o := .dK []) hd
    have s0 := hf.ex (e1.trans e2)
    refine q_forR1 (n := ((1 <<< size : Nat) : Int)) (ea_cons (ev_is (ev_len (ev_v 2) (sq_of (ed _ _ h2))) (by rw [hil])) ea_nil) (by omega) (fun i σ H' => Ex H2 H' ∧ ∃ kvs v4 v5 v6, H' d = some (.dK kvs) ∧ kvs.length ≤ i ∧ AllE H' kvs ∧ σ = [some (.ref a), some (.ref p), some (.ref r), some (.ref d), v4, v5, v6]) (fun H3 e3 => ⟨ed.trans e3, [], _, _, _, e3 _ _ upd_same, by simp, (fun kv hk => by cases hk), rfl⟩) ?_ ?_
    · rintro i σ H' hi ⟨e3, kvs, v4, v5, v6, h3, hk, hE, rfl⟩
      have his : i < 1 <<< size := by omega
      refine q_asg (ev_call (ea_cons (ev_size (s0.ex e3) C (ev_v 0)) (ea_cons (ev_v 2) (ea_cons (ev_v 4) ea_nil))) fun H4 e4 Q4 q4 E4 => ⟨size, r, fm, i, rfl, hz, e4 _ _ (e3 _ _ h2), his, q4⟩) fun H4 e4 => ?_
      refine s_when (b := decide (lowF size fm i ≠ 0) && !decide (i ∈ fm)) (et_and (et_truth (ev_v 5)) fun _ => et_not (et_B (ev_ix (sq_of (e4 _ _ (e3 _ _ h2))) (ev_v 2) (ev_v 4) (insF_get his)))) (fun hb H5 e5 => ?_) (fun hb H5 e5 => ⟨e3.trans (e4.trans e5), kvs, _, _, _, e5 _ _ (e4 _ _ h3), by omega, hE.ex (e4.trans e5), rfl⟩)
      have hb1 : lowF size fm i ≠ 0 := of_decide_eq_true (Bool.and_eq_true_iff.mp hb).1
      have hb2 : i ∉ fm := by
        have := (Bool.and_eq_true_iff.mp hb).2
        simpa using this
      have el := el_nats (K := K) (te := tVar 6) (t := tNot (fun σ H Q => tOp (rN0 fun a b => .int ((a &&& b : Nat) : Int)) (tOp (rN0 fun a b => .int ((a ^^^ b : Nat) : Int)) (tVar 6) (tVar 4)) (tVar 5) σ H fun x H' => ∃ k, TruV K x H' k ∧ Q k H')) (tl := tVar 1) (j := 6) (vs := [6]) (σ := [some (.ref a), some (.ref p), some (.ref r), some (.ref d), some (.int (i : Int)), some (.int (lowF size fm i : Nat)), v6]) (H := H5) (fun m => !decide (((m ^^^ i) &&& lowF size fm i) ≠ 0)) (fun m => .int (m : Nat)) (ev_v 1) (sq_of (e5 _ _ (e4 _ _ (e3 _ _ (e2 _ _ h1))))) (by have := ok.len; omega) (fun _ => rfl) (fun m H6 e6 hm => et_not (et_truth (ev_n (ev_n (ev_v 6) (ev_v 4)) (ev_v 5)))) (fun m H6 e6 hm _ => ev_v 6)
      have hnil : (fm.filter fun m => !decide (((m ^^^ i) &&& lowF size fm i) ≠ 0)) = [] := by
        rw [List.filter_eq_nil_iff]
        intro m hm
        simp [hro i his hb1 hb2 m hm]
      rw [hnil] at el
      refine el H5 (Ex.refl _) _ fun l H6 hl e6 h6 => ⟨.ref d, rfl, .int (i : Int), rfl, d, _, rfl, .inl ⟨kvs, .inl (i : Int), e6 _ _ (e5 _ _ (e4 _ _ h3)), rfl, sz_lt (by omega), rfl⟩, ?_⟩
      have hd2 : H2 d = none := hd
      refine ⟨Ex.mut (e3.trans (e4.trans (e5.trans e6))) hd2, _, _, _, _, upd_same, Nat.le_trans putK_len (by omega), fun kv hkv => ?_, rfl⟩
      rcases putK_mem hkv with h | h
      · obtain ⟨l2, z1, z2⟩ := (hE.ex (e4.trans (e5.trans e6))) kv h
        refine ⟨l2, z1, ?_⟩
        rw [upd_ne (fun e => by rw [e, e6 _ _ (e5 _ _ (e4 _ _ h3))] at z2; cases z2)]
        exact z2
      · refine ⟨l, h, ?_⟩
        rw [upd_ne (fun e => by rw [e, e6 _ _ (e5 _ _ (e4 _ _ h3))] at h6; cases h6)]
        exact h6
    · rintro σ H' ⟨e3, kvs, v4, v5, v6, h3, hk, hE, rfl⟩
      exact s_ret (ev_v 3) fun H4 e4 => q d H4 kvs hdH ((e1.trans e2).trans (e3.trans e4)) (e4 _ _ h3) (hE.ex e4)
def spFirst (CF : Addr) : Sp := fun vs H Q _ => ∃ (a d : Addr) (size : Nat) (fm : List Nat) (kvs : List (Key × V)), vs = [.ref a, .ref d] ∧ FamAt H CF a size fm ∧ FamOk size fm ∧ H d = some (.dK kvs) ∧ AllE H kvs ∧ RetV .non H Q
theorem sc_first_break : FnScope ["family", "rows", "inner", "found", "thing", "outer", "other"] ["family", "rows"] (defScope (top 37)) := ⟨rfl, rfl, rfl, by decide +kernel, rfl, by decide +kernel, by decide +kernel⟩
theorem c_first_break (C : FC K CF) (F : FnP K "first_break" (top 37) f fd) (g : mg "first_break" = some (.ref f)) (B : Bi mg) (c_mask_of : Cal P w K mg base 1 "mask_of" spMaskOf []) (c_lot_from : Cal P w K mg base 1 "lot_from" spLotFrom []) : Cal P w K mg base 2 "first_break" (spFirst CF) [] := by
  refine mkCal F g sc_first_break (fun _ _ _ _ _ _ us hl => match us, hl with | [_, _], _ => rfl) (fun vs H Q E h => ?_) (fun cdv A outer s H vs Q E hr h => ?_)
  · obtain ⟨a, d, size, fm, kvs, rfl, _⟩ := h
    rfl
  · obtain ⟨a, d, size, fm, kvs, rfl, hf, ok, hd, hE, q⟩ := h
    have hz := ok.s5
    refine ⟨_, (pss_cons (ps_for PassesOwn.never rfl (pi_tup (pe_fld (pv 0) rfl)) (pg_name (i := 2) sc_first_break.nd rfl (by first | exact Or.inl rfl | exact Or.inr rfl)) (pss_cons (ps_set (i := 3) sc_first_break.nd rfl (by first | exact Or.inl rfl | exact Or.inr rfl) (pe_lst pa_nil)) (pss_cons (ps_for PassesOwn.never rfl (pi_range1 rfl B.range (pa_cons (pe_fld (pv 0) rfl) pa_nil)) (pg_name (i := 4) sc_first_break.nd rfl (by first | exact Or.inl rfl | exact Or.inr rfl)) (pss_cons (ps_set (i := 5) sc_first_break.nd rfl (by first | exact Or.inl rfl | exact Or.inr rfl) (pe_op on_xor (pe_c c_mask_of hr (by decide) rfl (pa_cons (pv 2) pa_nil)) (pe_op on_shl (pe_nat 1 pe_int) (pv 4)))) (pss_one (ps_if (pt_truthK (K := K) rfl (pe_dget1 (hu_of hr) (pv 1) (pv 5) (by constructor <;> rfl)) (fun _ => rfl)) (pss_one (ps_expr (pe_bm PySem.F.plainAttrs_list PySem.F.slot_list_append PySem.F.type_list_append mt_append (pv 3) (pa_cons (pe_tup (pa_cons (pe_c c_lot_from hr (by decide) rfl (pa_cons (pe_ix (on_ix (K := K)) (pe_dget (hu_of hr) (pv 1) (pv 5) (fun _ _ => rfl)) (pe_nat 0 pe_int) (fun _ _ => rfl)) pa_nil)) (pa_cons (pv 4) pa_nil))) pa_nil)))) pss_nil)))) (pss_one (ps_if (pt_truthK (K := K) rfl (pv 3) (fun _ => rfl)) (pss_cons (ps_asg (pe_callB (cr_min rfl) (by rfl) B.min (by decide +kernel) (pa_cons (pv 3) pa_nil)) (pg_tup rfl (pgs_cons (pg_name (i := 6) sc_first_break.nd rfl (by first | exact Or.inl rfl | exact Or.inr rfl)) (pgs_cons (pg_name (i := 4) sc_first_break.nd rfl (by first | exact Or.inl rfl | exact Or.inr rfl)) pgs_nil)))) (pss_one (ps_ret (pe_tup (pa_cons (pv 2) (pa_cons (pv 6) (pa_cons (pv 4) pa_nil))))))) pss_nil))))) (pss_one (ps_ret pe_non))), ?_⟩
    obtain ⟨dx, fs, tl, rs, h1, h2, h3, h4, h5, h6⟩ := id hf
    refine q_forT (xs := rs) (ev_fld (ev_v 0) h1 C.cls C.a2 h3) (st_of h5) (fun i σ H' => Ex H H' ∧ ∃ v2 v3 v4 v5 v6, σ = [some (.ref a), some (.ref d), v2, v3, v4, v5, v6]) (fun H2 e2 => ⟨e2, _, _, _, _, _, rfl⟩) (fun i σ H' _ h => st_of (h.1 _ _ h5)) ?_ ?_
    · rintro i x σ H' hx ⟨e0, v2, v3, v4, v5, v6, rfl⟩
      have hl : i < (fm.map lotF).length := by rw [← h6.1]; exact (List.getElem?_eq_some_iff.mp hx).1
      have hn : (fm.map lotF)[i]? = some (fm.map lotF)[i] := List.getElem?_eq_some_iff.mpr ⟨hl, rfl⟩
      obtain ⟨b, rfl, hb⟩ := (h6.2 i x _ hx hn).ex e0
      generalize (fm.map lotF)[i] = ns at hn hb
      obtain ⟨m, hm, rfl⟩ : ∃ m ∈ fm, lotF m = ns := List.mem_map.mp (List.mem_of_getElem? hn)
      show tSeq _ _ _ [some (.ref a), some (.ref d), some (.ref b), v3, v4, v5, v6] H'
      refine q_asgL (el_lst ea_nil (by decide)) fun l H2 hl2 e2 hl3 => ?_
      have hf2 := hf.ex (e0.trans e2)
      refine q_forR1 (n := (size : Int)) (ea_cons (ev_size hf2 C (ev_v 0)) ea_nil) (by omega) (fun k σ H' => Ex H2 H' ∧ ∃ v4 v5, σ = [some (.ref a), some (.ref d), some (.ref b), some (.ref l), v4, v5, v6]) (fun H3 e3 => ⟨e3, _, _, rfl⟩) ?_ ?_
      · rintro k σ H3 hk ⟨e3, v4, v5, rfl⟩
        refine q_asg (ev_n (ev_call (ea_cons (ev_v 2) ea_nil) fun H4 e4 Q4 q4 E4 => ⟨b, lotF m, rfl, .inr (e4 _ _ (e3 _ _ (e2 _ _ hb))), fun x hx => by have := lotF_lt hx; omega, q4⟩) (ev_nc ev_c (ev_v 4) ⟨by decide, by omega⟩)) fun H4 e4 => ?_
        have e04 := (e0.trans e2).trans (e3.trans e4)
        refine ⟨.ref d, rfl, d, rfl, (.inl ⟨_, .inl (e04 _ _ hd)⟩), _, rfl, _, DGet.k (k := .inl _) (e04 _ _ hd), ?_⟩
        have tr : TruV K ((valV kvs (.inl ((orF (lotF m) ^^^ (1 <<< k) : Nat) : Int))).getD .non) H4 false := by
          cases ev : valV kvs (.inl ((orF (lotF m) ^^^ (1 <<< k) : Nat) : Int)) with
          | none => rfl
          | some v =>
            obtain ⟨kv, hkv, rfl⟩ := valV_mem ev
            obtain ⟨l5, z1, z2⟩ := (hE.ex e04) kv hkv
            show TruV K kv.2 H4 false
            rw [z1]
            exact .inl ⟨[], sq_of z2, rfl⟩
        exact ⟨false, tr, e3.trans e4, _, _, rfl⟩
      · rintro σ H3 ⟨e3, v4, v5, rfl⟩
        exact ⟨.ref l, rfl, false, .inl ⟨[], sq_of (e3 _ _ hl3), rfl⟩, (e0.trans e2).trans e3, _, _, _, _, _, rfl⟩
    · rintro σ H' ⟨e0, v2, v3, v4, v5, v6, rfl⟩
      exact s_ret ev_c fun H2 e2 => q H2 (e0.trans e2)
def spGate (CF : Addr) : Sp := fun vs H Q _ => ∃ (a : Addr) (size : Nat) (fm : List Nat), vs = [.ref a] ∧ FamAt H CF a size fm ∧ FamOk size fm ∧ RowsOk size fm ∧ RetV .non H Q
theorem sc_find_break : FnScope ["family"] ["family"] (defScope (top 38)) := ⟨rfl, rfl, rfl, by decide +kernel, rfl, by decide +kernel, by decide +kernel⟩
theorem c_find_break (C : FC K CF) (F : FnP K "find_break" (top 38) f fd) (g : mg "find_break" = some (.ref f)) (B : Bi mg) (c_ungated_rows : Cal P w K mg base 4 "ungated_rows" (spUngated CF) []) (c_first_break : Cal P w K mg base 2 "first_break" (spFirst CF) []) : Cal P w K mg base 5 "find_break" (spGate CF) [] := by
  refine mkCal F g sc_find_break (fun _ _ _ _ _ _ us hl => match us, hl with | [_], _ => rfl) (fun vs H Q E h => ?_) (fun cdv A outer s H vs Q E hr h => ?_)
  · obtain ⟨a, size, fm, rfl, _⟩ := h
    rfl
  · obtain ⟨a, size, fm, rfl, hf, ok, hro, q⟩ := h
    refine ⟨_, (pss_one (ps_ret (pe_c c_first_break hr (by decide) rfl (pa_cons (pv 0) (pa_cons (pe_c c_ungated_rows hr (by decide) rfl (pa_cons (pv 0) pa_nil)) pa_nil))))), ?_⟩
    exact ⟨.ref a, rfl, .ref a, rfl, a, size, fm, rfl, hf, ok, hro, fun d H1 kvs hd e1 h1 hE => ⟨a, d, size, fm, kvs, rfl, hf.ex e1, ok, h1, hE, fun H2 e2 => q H2 (e1.trans e2)⟩⟩
def spBasesAt (CF : Addr) : Sp := fun vs H Q _ => ∃ (a p : Addr) (size : Nat) (fm : List Nat) (t : Nat), vs = [.ref a, .ref p] ∧ FamAt H CF a size fm ∧ FamOk size fm ∧ t < 1 <<< size ∧ LotA H p (lotF t) ∧ ∀ L : List (List Nat), L.Perm ((basesF fm t).map lotF) → L.Pairwise lexLe → RetLots L H Q
end
end W7
end
section
namespace W7
/-! ### exchange, by membership -/
def EX (S : Nat → Prop) : Prop := ∀ m g, S m → S g → ∀ x, (m ^^^ g).testBit x = true → S (m ^^^ (1 <<< x)) ∨ ∃ y, y ≠ x ∧ (m ^^^ g).testBit y = true ∧ S ((m ^^^ (1 <<< x)) ^^^ (1 <<< y))
theorem tb_sh (x j : Nat) : (1 <<< x).testBit j = decide (x = j) := by
  rw [Nat.one_shiftLeft, Nat.testBit_two_pow]
theorem tb_lt {n k j : Nat} (h : n < 2 ^ k) (hj : n.testBit j = true) : j < k := by
  refine Nat.lt_of_not_le fun hk => ?_
  have := Nat.testBit_lt_two_pow (Nat.lt_of_lt_of_le h (Nat.pow_le_pow_right (by decide) hk))
  rw [this] at hj; cases hj
theorem ans_ok (size : Nat) (ms : List Nat) (n x : Nat) : ∀ k, ansF size ms n x k < 2 ^ k ∧ ∀ j, (ansF size ms n x k).testBit j = (decide (j < k) && (!decide (j = x) && decide ((n ^^^ (1 <<< j)) ∈ ms)))
  | 0 => ⟨by show (0 : Nat) < 1; decide, fun j => by simp [ansF]⟩
  | k + 1 => by
    obtain ⟨h1, h2⟩ := ans_ok size ms n x k
    have hp : 2 ^ (k + 1) = 2 ^ k + 2 ^ k := by rw [Nat.pow_succ]; omega
    rw [ansF]
    by_cases hc : (!decide (k = x) && decide ((n ^^^ (1 <<< k)) ∈ ms)) = true
    · rw [if_pos hc, Nat.one_shiftLeft]
      refine ⟨by omega, fun j => ?_⟩
      have h4 := Nat.two_pow_add_eq_or_of_lt h1 1
      rw [Nat.mul_one] at h4
      rw [Nat.add_comm, h4]
      rcases Nat.lt_trichotomy j k with h | h | h
      · rw [Nat.testBit_or, h2, Nat.testBit_two_pow]
        have : ¬ k = j := by omega
        have : j < k + 1 := by omega
        simp [*]
      · subst h
        rw [Nat.testBit_or, Nat.testBit_two_pow]
        simp [hc]
      · rw [Nat.testBit_or, h2, Nat.testBit_two_pow]
        have : ¬ k = j := by omega
        have : ¬ j < k := by omega
        have : ¬ j < k + 1 := by omega
        simp [*]
    · rw [if_neg hc]
      refine ⟨by omega, fun j => ?_⟩
      rw [h2]
      by_cases hj : j = k
      · subst hj
        have : (!decide (j = x) && decide ((n ^^^ (1 <<< j)) ∈ ms)) = false := by simpa using hc
        simp [this]
      · have : (decide (j < k + 1)) = decide (j < k) := by
          by_cases h : j < k
          · simp [h]; omega
          · simp [h]; omega
        rw [this]
theorem gated_of_EX {size : Nat} {ms : List Nat} (hb : ∀ m ∈ ms, m < 1 <<< size) (h : EX (· ∈ ms)) : GatedP size ms := by
  intro m hm x hx g hg
  unfold badF
  rw [Bool.and_eq_false_iff, Bool.and_eq_false_iff]
  by_cases h1 : (m ^^^ (1 <<< x)) ∈ ms
  · exact .inl (by simp [h1])
  by_cases h2 : ((m ^^^ g) >>> x) &&& 1 = 1
  · have h3 : (m ^^^ g).testBit x = true := by
      rw [shr_and] at h2
      cases e : (m ^^^ g).testBit x with
      | true => rfl
      | false => rw [e] at h2; cases h2
    rcases h m g hm hg x h3 with h4 | ⟨y, h4, h5, h6⟩
    · exact absurd h4 h1
    · refine .inr (.inr (decide_eq_false fun h7 => ?_))
      have h8 : ((m ^^^ g) &&& ansF size ms (m ^^^ (1 <<< x)) x size).testBit y = true := by
        have hy : y < size := by
          refine tb_lt (n := m ^^^ g) ?_ h5
          rw [← Nat.one_shiftLeft]
          exact xor_lt_sh (hb m hm) (hb g hg)
        rw [Nat.testBit_and, h5, (ans_ok size ms _ x size).2]
        simp [hy, h4, h6]
      rw [h7, Nat.zero_testBit] at h8
      cases h8
  · exact .inr (.inl (decide_eq_false h2))
theorem EX_of_gated {size : Nat} {ms : List Nat} (hb : ∀ m ∈ ms, m < 1 <<< size) (h : GatedP size ms) : EX (· ∈ ms) := by
  intro m g hm hg x hx
  have hxs : x < size := by
    refine tb_lt (n := m ^^^ g) ?_ hx
    rw [← Nat.one_shiftLeft]
    exact xor_lt_sh (hb m hm) (hb g hg)
  by_cases h1 : (m ^^^ (1 <<< x)) ∈ ms
  · exact .inl h1
  · refine .inr ?_
    have h2 := h m hm x hxs g hg
    unfold badF at h2
    rw [shr_and, hx] at h2
    simp only [h1, decide_false, Bool.not_false, Bool.toNat_true, decide_true, Bool.true_and, decide_eq_false_iff_not] at h2
    obtain ⟨y, hy⟩ := Nat.exists_testBit_of_ne_zero h2
    rw [Nat.testBit_and, (ans_ok size ms _ x size).2] at hy
    simp only [Bool.and_eq_true, Bool.not_eq_true', decide_eq_false_iff_not, decide_eq_true_eq] at hy
    exact ⟨y, hy.2.2.1, hy.1, hy.2.2.2⟩
theorem EX.turn {S : Nat → Prop} (h : EX S) (t : Nat) : EX (fun n => S (n ^^^ t)) := by
  intro m g hm hg x hx
  have e : (m ^^^ t) ^^^ (g ^^^ t) = m ^^^ g := by
    rw [Nat.xor_assoc, Nat.xor_comm g t, ← Nat.xor_assoc t t g, Nat.xor_self, Nat.zero_xor]
  have c : ∀ a b : Nat, (a ^^^ b) ^^^ t = (a ^^^ t) ^^^ b := fun a b => by rw [Nat.xor_assoc, Nat.xor_comm b t, ← Nat.xor_assoc]
  rcases h (m ^^^ t) (g ^^^ t) hm hg x (by rw [e]; exact hx) with h1 | ⟨y, h1, h2, h3⟩
  · exact .inl (by show S _; rw [c]; exact h1)
  · refine .inr ⟨y, h1, by rw [e] at h2; exact h2, ?_⟩
    show S _
    rw [c, c]
    exact h3
theorem EX.iff {S T : Nat → Prop} (h : EX S) (e : ∀ n, S n ↔ T n) : EX T := by
  have : S = T := funext fun n => propext (e n)
  rw [← this]; exact h
/-! ### a swift check -/
def bset (ms : List Nat) : Nat := ms.foldl (fun a m => a ||| (1 <<< m)) 0
theorem bset_ok (ms : List Nat) (n : Nat) : (bset ms).testBit n = decide (n ∈ ms) := by
  have go : ∀ (ms : List Nat) (a : Nat), (ms.foldl (fun a m => a ||| (1 <<< m)) a).testBit n = (a.testBit n || decide (n ∈ ms)) := by
    intro ms
    induction ms with
    | nil => intro a; simp
    | cons m ms ih =>
      intro a
      rw [List.foldl_cons, ih, Nat.testBit_or, tb_sh, Bool.or_assoc]
      congr 1
      by_cases h : n = m
      · subst h; simp
      · have : ¬ m = n := fun e => h e.symm
        simp [h, this]
  unfold bset
  rw [go]; simp
def hasB (F n : Nat) : Bool := Nat.beq ((F >>> n) % 2) 1
theorem hasB_ok (F n : Nat) : hasB F n = F.testBit n := by
  unfold hasB
  rw [Nat.testBit, Nat.and_comm, Nat.and_one_is_mod]
  rcases Nat.mod_two_eq_zero_or_one (F >>> n) with h | h <;> rw [h] <;> rfl
def chkF (size F : Nat) (ms : List Nat) : Bool :=
  ms.all fun m => (List.range size).all fun x => hasB F (m ^^^ (1 <<< x)) ||
    ms.all fun g => !hasB (m ^^^ g) x || (List.range size).any fun y => !Nat.beq y x && (hasB (m ^^^ g) y && hasB F ((m ^^^ (1 <<< x)) ^^^ (1 <<< y)))
theorem chk_EX {size F : Nat} {ms : List Nat} (hb : ∀ m ∈ ms, m < 1 <<< size) (hF : ∀ n, F.testBit n = decide (n ∈ ms)) (h : chkF size F ms = true) : EX (· ∈ ms) := by
  intro m g hm hg x hx
  have hxs : x < size := by
    refine tb_lt (n := m ^^^ g) ?_ hx
    rw [← Nat.one_shiftLeft]
    exact xor_lt_sh (hb m hm) (hb g hg)
  unfold chkF at h
  have h1 := List.all_eq_true.mp (List.all_eq_true.mp h m hm) x (List.mem_range.mpr hxs)
  rw [hasB_ok, hF, Bool.or_eq_true] at h1
  rcases h1 with h1 | h1
  · exact .inl (of_decide_eq_true h1)
  · have h2 := List.all_eq_true.mp h1 g hg
    rw [hasB_ok, hx, Bool.not_true, Bool.false_or] at h2
    obtain ⟨y, hy, h3⟩ := List.any_eq_true.mp h2
    rw [hasB_ok, hasB_ok, hF, Bool.and_eq_true, Bool.and_eq_true] at h3
    obtain ⟨h4, h5, h6⟩ := h3
    refine .inr ⟨y, fun e => ?_, h5, of_decide_eq_true h6⟩
    subst e
    have : Nat.beq y y = true := Nat.beq_refl y
    rw [this] at h4
    cases h4
/-! ### the same with all goals at once -/
def setY (y : Nat) : Nat := [0xAAAAAAAA, 0xCCCCCCCC, 0xF0F0F0F0, 0xFF00FF00, 0xFFFF0000].getD y 0
def setN (y : Nat) : Nat := [0x55555555, 0x33333333, 0x0F0F0F0F, 0x00FF00FF, 0x0000FFFF].getD y 0
def difS (m y : Nat) : Nat := if hasB m y then setN y else setY y
theorem setY_ok : ∀ y : Nat, y < 5 → ∀ g : Nat, g < 32 → (setY y).testBit g = g.testBit y := by decide +kernel
theorem setN_ok : ∀ y : Nat, y < 5 → ∀ g : Nat, g < 32 → (setN y).testBit g = !g.testBit y := by decide +kernel
theorem dif_ok {m y g : Nat} (hy : y < 5) (hg : g < 32) : (difS m y).testBit g = (m ^^^ g).testBit y := by
  unfold difS
  rw [hasB_ok, Nat.testBit_xor]
  by_cases h : m.testBit y = true
  · rw [if_pos h, setN_ok y hy g hg, h]; simp
  · rw [if_neg h, setY_ok y hy g hg]
    have : m.testBit y = false := by simpa using h
    rw [this]; simp
def leftS (F m x : Nat) : List Nat → Nat → Nat
  | [], A => A
  | y :: ys, A => leftS F m x ys (if !Nat.beq y x && hasB F ((m ^^^ (1 <<< x)) ^^^ (1 <<< y)) then A ^^^ (A &&& difS m y) else A)
theorem left_ok {F m x g : Nat} (hg : g < 32) : ∀ (ys : List Nat) (A : Nat), (∀ y ∈ ys, y < 5) → A.testBit g = true → (leftS F m x ys A).testBit g = false → ∃ y ∈ ys, y ≠ x ∧ F.testBit ((m ^^^ (1 <<< x)) ^^^ (1 <<< y)) = true ∧ (m ^^^ g).testBit y = true
  | [], A, _, h1, h2 => by
    have h3 : A.testBit g = false := h2
    rw [h1] at h3; cases h3
  | y :: ys, A, hy, h1, h2 => by
    rw [leftS] at h2
    have tl : ∀ z ∈ ys, z < 5 := fun z hz => hy z (List.mem_cons_of_mem _ hz)
    have up : ∀ A', A'.testBit g = true → (leftS F m x ys A').testBit g = false → ∃ y' ∈ y :: ys, y' ≠ x ∧ F.testBit ((m ^^^ (1 <<< x)) ^^^ (1 <<< y')) = true ∧ (m ^^^ g).testBit y' = true := fun A' a b => by
      obtain ⟨z, z1, z2⟩ := left_ok hg ys A' tl a b
      exact ⟨z, List.mem_cons_of_mem _ z1, z2⟩
    by_cases c : (!Nat.beq y x && hasB F ((m ^^^ (1 <<< x)) ^^^ (1 <<< y))) = true
    · rw [if_pos c] at h2
      rw [Bool.and_eq_true, Bool.not_eq_true', hasB_ok] at c
      have hyx : y ≠ x := fun e => by
        subst e
        rw [Nat.beq_refl] at c; cases c.1
      cases hd : (m ^^^ g).testBit y with
      | true => exact ⟨y, List.mem_cons_self, hyx, c.2, hd⟩
      | false =>
        refine up _ ?_ h2
        rw [Nat.testBit_xor, Nat.testBit_and, dif_ok (hy y List.mem_cons_self) hg, h1, hd]; rfl
    · rw [if_neg c] at h2
      exact up _ h1 h2
def chkF2 (size F : Nat) (ms : List Nat) : Bool :=
  ms.all fun m => (List.range size).all fun x => hasB F (m ^^^ (1 <<< x)) || Nat.beq (leftS F m x (List.range size) (F &&& difS m x)) 0
theorem chk_EX2 {size F : Nat} {ms : List Nat} (h5 : size ≤ 5) (hb : ∀ m ∈ ms, m < 1 <<< size) (hF : ∀ n, F.testBit n = decide (n ∈ ms)) (h : chkF2 size F ms = true) : EX (· ∈ ms) := by
  intro m g hm hg x hx
  have hxs : x < size := by
    refine tb_lt (n := m ^^^ g) ?_ hx
    rw [← Nat.one_shiftLeft]
    exact xor_lt_sh (hb m hm) (hb g hg)
  have hg32 : g < 32 := by
    have h1 := hb g hg
    have h2 : 1 <<< size ≤ 1 <<< 5 := by rw [Nat.one_shiftLeft, Nat.one_shiftLeft]; exact Nat.pow_le_pow_right (by decide) h5
    have : (1 <<< 5 : Nat) = 32 := by decide
    omega
  unfold chkF2 at h
  have h1 := List.all_eq_true.mp (List.all_eq_true.mp h m hm) x (List.mem_range.mpr hxs)
  rw [hasB_ok, hF, Bool.or_eq_true] at h1
  rcases h1 with h1 | h1
  · exact .inl (of_decide_eq_true h1)
  · have h2 := Nat.eq_of_beq_eq_true h1
    obtain ⟨y, y1, y2, y3, y4⟩ := left_ok (F := F) (m := m) (x := x) hg32 (List.range size) (F &&& difS m x) (fun y hy => by have := List.mem_range.mp hy; omega) (by rw [Nat.testBit_and, hF, dif_ok (by omega) hg32, hx]; simpa using hg) (by rw [h2]; simp)
    rw [hF] at y3
    exact .inr ⟨y, y2, y4, of_decide_eq_true y3⟩
/-! ### webs of at most five things -/
def allL : List (Nat × Nat) := [(0, 1), (0, 2), (1, 2), (0, 3), (1, 3), (2, 3), (0, 4), (1, 4), (2, 4), (3, 4)]
def codeL (c : Nat) : List (Nat × Nat) → Nat → List (Nat × Nat)
  | [], _ => []
  | l :: ls, k => if hasB c k then l :: codeL c ls (k + 1) else codeL c ls (k + 1)
def os1 (size : Nat) : List Nat := sizedF size 0 1
def chkW (size c : Nat) : Bool :=
  let ms := pairF size (codeL c allL 0)
  let F := bset ms
  let F2 := bset (ms.flatMap fun m => (os1 size).map fun o => m ^^^ o)
  let ms2 := (List.range (1 <<< size)).filter fun n => hasB F2 n
  chkF2 size F ms && chkF2 size F2 ms2
end W7
end
section
namespace W7
open PySem PySem.Spec PyProof.Rows L2 L3 Evl
open C8 (Cal pe_c Mak pe_mk Met pe_mt pe_mt0)
section
variable {P : Program} {w : World} {K : PySem.W.Frag} {mg : Str → Option Value} {base : Heap}
theorem mkMet {m qual : Str} {C : Addr} {st : Stmt} {f : Addr} {fd : FuncData} {N ps : List Str} {k : Nat} {sp : Sp} (c : Cls K C) (me : Meth K C m f) (F : FunD K m qual (defArgs st) (defBody st) (defScope st) [] [] f fd) (S : FnScope N ps (defScope st))
    (hb : ∀ (kV doc pm : Value) (an : Option Addr) (cdv ct : Value) (us : List Value), us.length = ps.length → bindArgs (PySem.W.fnOf m qual (defArgs st) (defBody st) (defScope st) .none kV doc pm an cdv ct) ⟨us, []⟩ = pure (ps.zip us))
    (len : ∀ vs H Q E, sp vs H Q E → vs.length = ps.length) (body : ∀ (cdv : Value) (A : Around) (outer : List Env) (s : Shared) (H : Hp) (vs : List V) (Q : VK) (E : XK), Room k (A.deeper (envOfC qual (defScope st) s.heap.objs.size f cdv)) → sp vs H Q E →
      ∃ t, PSs (cxOf CX0 P w K mg base N qual (defScope st) f cdv A outer s H E).nox (defBody st) t ∧ t { nx := fun _ H' => Q .non H', rt := Q } (start N vs) H) : Met P w K mg base (k + 1) C m sp [] :=
  ⟨f, fd, ps, [], c, me, F.ok S len fun cdv A outer s H vs Q E hr h => (body cdv A outer s H vs Q E hr h).elim fun t z => ⟨t, z.1.nox, z.2⟩, F.bindsN hb, .nil⟩
theorem mkMak {x qual : Str} {C : Addr} {st : Stmt} {f : Addr} {fd : FuncData} {N ps : List Str} {k : Nat} {sp : Sp} (M : Mk K C f) (hm : mg x = some (.ref C)) (F : FunD K "__init__" qual (defArgs st) (defBody st) (defScope st) [] [] f fd) (S : FnScope N ps (defScope st))
    (hb : ∀ (kV doc pm : Value) (an : Option Addr) (cdv ct : Value) (us : List Value), us.length = ps.length → bindArgs (PySem.W.fnOf "__init__" qual (defArgs st) (defBody st) (defScope st) .none kV doc pm an cdv ct) ⟨us, []⟩ = pure (ps.zip us))
    (len : ∀ vs H Q E, sp vs H Q E → vs.length = ps.length) (body : ∀ (cdv : Value) (A : Around) (outer : List Env) (s : Shared) (H : Hp) (vs : List V) (Q : VK) (E : XK), Room k (A.deeper (envOfC qual (defScope st) s.heap.objs.size f cdv)) → sp vs H Q E →
      ∃ t, PSs (cxOf CX0 P w K mg base N qual (defScope st) f cdv A outer s H E).nox (defBody st) t ∧ t { nx := fun _ H' => Q .non H', rt := Q } (start N vs) H) : Mak P w K mg base (k + 1) x C sp [] :=
  ⟨f, fd, ps, [], M, F.ok S len fun cdv A outer s H vs Q E hr h => (body cdv A outer s H vs Q E hr h).elim fun t z => ⟨t, z.1.nox, z.2⟩, hm, F.bindsN hb, .nil⟩
end
section
variable {X : Cx} {K : PySem.W.Frag} {w : World}
theorem cr_setOfIK (hK : X.K = K) (hw : X.w = w) (hc : X.calm = true) : CallR X (.type "set") (rSetOfI K w) := hK ▸ hw ▸ cr_setOfI hc
theorem op_setAndK (hw : X.w = w) : OpR X (binaryOp .BitAnd) (rSetAnd w) := hw ▸ op_setAnd
theorem op_setXorK (hw : X.w = w) : OpR X (binaryOp .BitXor) (rSetXor w) := hw ▸ op_setXor
theorem call_lenSetK (hw : X.w = w) : CallR X (.builtin "len") (rLenSet w) := hw ▸ call_lenSet
end
/-! ### sets of lots -/
def inI (m : Nat) : List Int := (lotF m).map fun n => ((n : Nat) : Int)
theorem mem_inI {m : Nat} {k : Int} : k ∈ inI m ↔ 0 ≤ k ∧ k.toNat < 12 ∧ m.testBit k.toNat = true := by
  unfold inI
  constructor
  · intro h
    obtain ⟨n, hn, rfl⟩ := List.mem_map.mp h
    have := List.mem_filter.mp hn
    exact ⟨by omega, by simpa using this.1, by simpa using this.2⟩
  · rintro ⟨h1, h2, h3⟩
    exact List.mem_map.mpr ⟨k.toNat, List.mem_filter.mpr ⟨List.mem_range.mpr h2, h3⟩, by omega⟩
theorem inI_nodup (m : Nat) : (inI m).Nodup := List.Pairwise.map _ (fun a b h => by omega) (lot_asc m)
theorem lot_len : ∀ m : Nat, m < 64 → (lotF m).length = bits m := by decide +kernel
theorem bits_le : ∀ m : Nat, m < 64 → bits m ≤ 7 := by decide +kernel
section
variable {K : PySem.W.Frag} {w : World} {σ : L2.St} {H H' : Hp} {ta tb tc te tl : TE} {v z : V} {t : TT}
theorem ev_set {m : Nat} {p : Addr} {Q : VK} {σ : L2.St} {H : Hp} (hp : H p = some (.tup (nv (lotF m)))) (ha : Ev ta σ H (.ref p)) (q : ∀ s c H2, H s = none → Ex H H2 → H2 s = some (SetO w s (fun j => decide (j ∈ inI m)) c) → c ≤ (lotF m).length → Q (.ref s) H2) : tCB (rSetOfI K w) (tCons ta tNil) σ H Q :=
  ha H (Ex.refl H) _ fun H1 e1 => ⟨p, inI m, rfl, st_of (by rw [e1 _ _ hp]; unfold nv inI; rw [List.map_map]; rfl), by
    unfold inI; rw [List.length_map]
    exact Nat.le_trans (List.length_filter_le _ _) (by rw [List.length_range]; decide), fun s c hs hc => q s c _ (fresh_back e1 hs) (e1.trans (Ex.new hs)) upd_same (by unfold inI at hc; rw [List.length_map] at hc; exact hc)⟩
/-- len(set(row) ^ set(other)) -/
theorem ev_symd {m u : Nat} {p b : Addr} (hm : m < 32) (hu : u < 32) (hp : H p = some (.tup (nv (lotF u)))) (hb : H b = some (.tup (nv (lotF m)))) (ha : ∀ H1, Ex H H1 → Ev ta σ H1 (.ref p)) (hbv : ∀ H1, Ex H H1 → Ev tb σ H1 (.ref b)) :
    Ev (tCB (rLenSet w) (tCons (tOp (rSetXor w) (tCB (rSetOfI K w) (tCons ta tNil)) (tCB (rSetOfI K w) (tCons tb tNil))) tNil)) σ H (.int (bits (m ^^^ u) : Nat)) := fun H1 e Q q => by
  have hx : m ^^^ u < 64 := Nat.lt_of_lt_of_le (Nat.xor_lt_two_pow (n := 5) hm hu) (by decide)
  refine ev_set (K := K) (w := w) (e _ _ hp) (ha H1 e) fun s1 c1 H2 hs1 e2 h2 hc1 => ?_
  refine ev_set (K := K) (w := w) (e2 _ _ (e _ _ hb)) (hbv H2 (e.trans e2)) fun s2 c2 H3 hs2 e3 h3 hc2 => ?_
  have l1 := lot_len u (by omega)
  have l2 := lot_len m (by omega)
  have b1 := bits_le u (by omega)
  have b2 := bits_le m (by omega)
  refine ⟨s1, s2, _, _, c1, c2, rfl, rfl, e3 _ _ h2, h3, fun k hk => ?_, by omega, by omega, fun s3 c3 hs3 => ?_⟩
  · have := mem_inI.mp (of_decide_eq_true hk)
    refine ⟨this.1, ?_⟩
    have h5 := tb_lt (n := m) (k := 5) (by omega) this.2.2
    omega
  · refine ⟨s3, _, c3, inI (m ^^^ u), rfl, upd_same, inI_nodup _, fun k => ?_, ?_⟩
    · have e1 : ∀ j, decide (k ∈ inI j) = (decide (0 ≤ k) && (decide (k.toNat < 12) && j.testBit k.toNat)) := fun j => by
        rw [Bool.eq_iff_iff, decide_eq_true_iff, mem_inI]
        simp
      have e2 : k ∈ inI (m ^^^ u) ↔ decide (k ∈ inI (m ^^^ u)) = true := by simp
      rw [e2, e1, e1, e1, Nat.testBit_xor]
      cases decide (0 ≤ k) <;> cases decide (k.toNat < 12) <;> cases m.testBit k.toNat <;> cases u.testBit k.toNat <;> simp
    · have : (inI (m ^^^ u)).length = bits (m ^^^ u) := by unfold inI; rw [List.length_map, lot_len _ hx]
      rw [this]
      exact q _ (e2.trans (e3.trans (Ex.new hs3)))
theorem ev_meet {m u : Nat} {p b : Addr} (hm : m < 32) (hu : u < 32) (hp : H p = some (.tup (nv (lotF u)))) (hb : H b = some (.tup (nv (lotF m)))) (ha : ∀ H1, Ex H H1 → Ev ta σ H1 (.ref p)) (hbv : ∀ H1, Ex H H1 → Ev tb σ H1 (.ref b)) :
    Ev (tCB (rLenSet w) (tCons (tOp (rSetAnd w) (tCB (rSetOfI K w) (tCons ta tNil)) (tCB (rSetOfI K w) (tCons tb tNil))) tNil)) σ H (.int (bits (m &&& u) : Nat)) := fun H1 e Q q => by
  have hx : m &&& u < 64 := Nat.lt_of_le_of_lt Nat.and_le_left (by omega)
  refine ev_set (K := K) (w := w) (e _ _ hp) (ha H1 e) fun s1 c1 H2 hs1 e2 h2 hc1 => ?_
  refine ev_set (K := K) (w := w) (e2 _ _ (e _ _ hb)) (hbv H2 (e.trans e2)) fun s2 c2 H3 hs2 e3 h3 hc2 => ?_
  have hne : s1 ≠ s2 := fun e => by rw [e] at h2; rw [h2] at hs2; cases hs2
  refine ⟨s1, s2, _, _, c1, c2, rfl, rfl, hne, e3 _ _ h2, h3, fun s3 c3 hs3 => ?_⟩
  · refine ⟨s3, _, c3, inI (m &&& u), rfl, upd_same, inI_nodup _, fun k => ?_, ?_⟩
    · have e1 : ∀ j, decide (k ∈ inI j) = (decide (0 ≤ k) && (decide (k.toNat < 12) && j.testBit k.toNat)) := fun j => by
        rw [Bool.eq_iff_iff, decide_eq_true_iff, mem_inI]
        simp
      have e2 : k ∈ inI (m &&& u) ↔ decide (k ∈ inI (m &&& u)) = true := by simp
      rw [e2, e1, e1, e1, Nat.testBit_and]
      cases decide (0 ≤ k) <;> cases decide (k.toNat < 12) <;> cases m.testBit k.toNat <;> cases u.testBit k.toNat <;> simp
    · have : (inI (m &&& u)).length = bits (m &&& u) := by unfold inI; rw [List.length_map, lot_len _ hx]
      rw [this]
      exact q _ (e2.trans (e3.trans (Ex.new hs3)))
end
theorem FamOk.lt32 {size : Nat} {fm : List Nat} (o : FamOk size fm) : ∀ m ∈ fm, m < 32 := fun m hm => by
  have := o.lt m hm
  have h5 := o.s5
  have h : 1 <<< size ≤ 1 <<< 5 := by rw [Nat.one_shiftLeft, Nat.one_shiftLeft]; exact Nat.pow_le_pow_right (by decide) h5
  have : (1 <<< 5 : Nat) = 32 := by decide
  omega
theorem sh32 {size t : Nat} (h5 : size ≤ 5) (h : t < 1 <<< size) : t < 32 := by
  have h : 1 <<< size ≤ 1 <<< 5 := by rw [Nat.one_shiftLeft, Nat.one_shiftLeft]; exact Nat.pow_le_pow_right (by decide) h5
  have : (1 <<< 5 : Nat) = 32 := by decide
  omega
section
variable {P : Program} {w : World} {K : PySem.W.Frag} {mg : Str → Option Value} {base : Heap} {f : Addr} {fd : FuncData} {CF CA : Addr}
def spDepth (CF : Addr) : Sp := fun vs H Q _ => ∃ (a p : Addr) (size : Nat) (fm : List Nat) (t : Nat), vs = [.ref a, .ref p] ∧ FamAt H CF a size fm ∧ FamOk size fm ∧ t < 1 <<< size ∧ LotA H p (lotF t) ∧ RetV (.int (mn (fm.map fun m => bits (m ^^^ t)) : Nat)) H Q
theorem sc_Family_depth : FnScope ["self", "lot", "row", "other"] ["self", "lot"] (defScope (inClass (top 30) 16)) := ⟨rfl, rfl, rfl, by decide +kernel, rfl, by decide +kernel, by decide +kernel⟩
theorem m_depth (C : FC K CF) (me : Meth K CF "depth" f) (F : FunD K "depth" "Family.depth" (defArgs (inClass (top 30) 16)) (defBody (inClass (top 30) 16)) (defScope (inClass (top 30) 16)) [] [] f fd) (B : Bi mg) (c_lot_of : Cal P w K mg base 3 "lot_of" spLotOf []) : Met P w K mg base 4 CF "depth" (spDepth CF) [] := by
  refine mkMet C.cls me F sc_Family_depth (fun _ _ _ _ _ _ us hl => match us, hl with | [_, _], _ => rfl) (fun vs H Q E h => ?_) (fun cdv A outer s H vs Q E hr h => ?_)
  · obtain ⟨a, p, size, fm, t, rfl, _⟩ := h
    rfl
  · obtain ⟨a, p, size, fm, t, rfl, hf, ok, ht, hp, q⟩ := h
    have hz := ok.s5
    have lo := lot_ok ht (by omega)
    have hne2 : fm.map (fun n => bits (n ^^^ t)) ≠ [] := by simpa using ok.ne
    refine ⟨_, (pss_cons (ps_set (i := 2) sc_Family_depth.nd rfl (by first | exact Or.inl rfl | exact Or.inr rfl) (pe_c c_lot_of hr (by decide) rfl (pa_cons (pv 1) (pa_cons (pe_fld (pv 0) rfl) pa_nil)))) (pss_one (ps_ret (pe_callB (cr_min rfl) (by rfl) B.min (by decide +kernel) (pa_cons (pe_lc (own := [("other", 3)]) (g := gName 3) (by rfl) sc_Family_depth.nd (pi_tup (pe_fld (pv 0) rfl)) (blkOk_by (own := [("other", 3)]) (N := ["self", "lot", "row", "other"]) (sc := defScope (inClass (top 30) 16)) (by decide +kernel)) (fun _ _ _ _ _ => (pg_name (i := 3) sc_Family_depth.nd rfl (by first | exact Or.inl rfl | exact Or.inr rfl))) (fun _ _ _ _ _ => pts_nil) (fun _ _ _ _ _ => (pe_callB (call_lenSetK (w := w) rfl) (by rfl) B.len (by decide +kernel) (pa_cons (pe_op (op_setXorK (w := w) rfl) (pe_callTy (cr_setOfIK (K := K) (w := w) rfl rfl rfl) (by rfl) B.set (by decide +kernel) (pa_cons (pv 2) pa_nil)) (pe_callTy (cr_setOfIK (K := K) (w := w) rfl rfl rfl) (by rfl) B.set (by decide +kernel) (pa_cons (pv 3) pa_nil))) pa_nil)))) pa_nil))))), ?_⟩
    refine q_asgU (eu_call (xs := nv (lotF t)) (ea_cons (ev_v 1) (ea_cons (ev_size hf C (ev_v 0)) ea_nil)) fun H2 e2 Q2 q2 E2 => ⟨p, lotF t, size, rfl, hp.ex e2, lo.1, lo.2, q2⟩) fun r H1 hr1 e1 h1 => ?_
    obtain ⟨dx, fs, tl, rs, g1, g2, g3, g4, g5, g6⟩ := hf.ex e1
    refine s_ret (ev_minN (ns := fm.map fun n => bits (n ^^^ t)) ?_ (mn_ok hne2).1 (mn_ok hne2).2) fun H2 e2 => q H2 (e1.trans e2)
    have el := el_lotsT (K := K) (te := tCB (rLenSet w) (tCons (tOp (rSetXor w) (tCB (rSetOfI K w) (tCons (tVar 2) tNil)) (tCB (rSetOfI K w) (tCons (tVar 3) tNil))) tNil)) (tl := tFld K (tVar 0) "lots") (j := 3) (vs := [3]) (σ := [some (.ref a), some (.ref p), some (.ref r), none]) (H := H1) (fun ns => .int (bits (orF ns ^^^ t) : Nat)) (ev_fld (ev_v 0) g1 C.cls C.a2 g3) (st_of g5) g6 (by rw [List.length_map]; have := ok.len; omega) (fun _ => rfl) (fun x ns H2 e2 hx hns => by
      obtain ⟨b, rfl, hb⟩ := hx
      obtain ⟨m, hm, rfl⟩ := List.mem_map.mp hns
      rw [orF_lot m (ok.lt64 m hm)]
      exact ev_symd (ok.lt32 m hm) (sh32 hz ht) (e2 _ _ h1) hb (fun H3 e3 => ev_v 2) (fun H3 e3 => ev_v 3))
    have e3 : (fm.map lotF).map (fun ns => V.int (bits (orF ns ^^^ t) : Nat)) = nv (fm.map fun n => bits (n ^^^ t)) := by
      unfold nv
      simp only [List.map_map]
      refine List.map_congr_left fun m hm => ?_
      show V.int ((bits (orF (lotF m) ^^^ t) : Nat) : Int) = _
      rw [orF_lot m (ok.lt64 m hm)]; rfl
    rw [e3] at el
    exact el
theorem sc_depth_of : FnScope ["family", "lot"] ["family", "lot"] (defScope (top 41)) := ⟨rfl, rfl, rfl, by decide +kernel, rfl, by decide +kernel, by decide +kernel⟩
theorem c_depth_of (F : FnP K "depth_of" (top 41) f fd) (g : mg "depth_of" = some (.ref f)) (B : Bi mg) (m_depth : Met P w K mg base 4 CF "depth" (spDepth CF) []) : Cal P w K mg base 5 "depth_of" (spDepth CF) [] := by
  refine mkCal F g sc_depth_of (fun _ _ _ _ _ _ us hl => match us, hl with | [_, _], _ => rfl) (fun vs H Q E h => ?_) (fun cdv A outer s H vs Q E hr h => ?_)
  · obtain ⟨a, p, size, fm, t, rfl, _⟩ := h
    rfl
  · obtain ⟨a, p, size, fm, t, rfl, hf, ok, ht, hp, q⟩ := h
    refine ⟨_, (pss_one (ps_ret (pe_mt m_depth hr (by decide) (pv 0) (pa_cons (pv 1) pa_nil)))), ?_⟩
    obtain ⟨dx, fs, tl, rs, g1, g2, g3, g4, g5, g6⟩ := id hf
    exact ⟨.ref a, rfl, a, dx, fs, rfl, g1, g4, .ref p, rfl, a, p, size, fm, t, rfl, hf, ok, ht, hp, q⟩
end
end W7
end
section
namespace W7
open PySem PySem.Spec PyProof.Rows L2 L3 Evl
open C8 (Cal pe_c Mak pe_mk Met pe_mt pe_mt0)
structure AC (K : PySem.W.Frag) (CA : Addr) : Prop where
  cls : Cls K CA
  a1 : NoAttr K CA "family"
  a2 : NoAttr K CA "lot"
  a3 : NoAttr K CA "_bases"
  a4 : NoAttr K CA "rank"
theorem perm_lots {bs : List Nat} {L : List (List Nat)} (h : L.Perm (bs.map lotF)) (hb : ∀ b ∈ bs, b < 64) : ∃ bm : List Nat, L = bm.map lotF ∧ bm.Perm bs := by
  refine ⟨L.map orF, ?_, ?_⟩
  · rw [List.map_map]
    refine (List.map_id L).symm.trans (List.map_congr_left fun l hl => ?_)
    obtain ⟨m, hm, rfl⟩ := List.mem_map.mp (h.mem_iff.mp hl)
    show lotF m = lotF (orF (lotF m))
    rw [orF_lot m (hb m hm)]
  · refine (h.map orF).trans ?_
    rw [List.map_map]
    have e : bs.map (orF ∘ lotF) = bs := (List.map_congr_left fun m hm => orF_lot m (hb m hm)).trans (List.map_id bs)
    rw [e]
def XB (x : Addr) (H H' : Hp) : Prop := ∀ b o, b ≠ x → H b = some o → H' b = some o
theorem XB.ex {x : Addr} {H H1 H2 : Hp} (a : XB x H H1) (e : Ex H1 H2) : XB x H H2 := fun b o n h => e _ _ (a b o n h)
theorem XB.up {x : Addr} {H H1 : Hp} {o : HO} (a : XB x H H1) : XB x H (upd H1 x o) := fun b u n h => by rw [upd_ne n]; exact a b u n h
theorem TupV.xb {x : Addr} {H H' : Hp} {C dx : Addr} {fs : List (Str × V)} {r : V} {ns : List Nat} (h : TupV H r ns) (hx : H x = some (.ins C dx fs)) (b : XB x H H') : TupV H' r ns := h.elim fun t z => ⟨t, z.1, b t _ (fun e => by rw [e, hx] at z; cases z.2) z.2⟩
theorem Lots.xb {x : Addr} {H H' : Hp} {C dx : Addr} {fs : List (Str × V)} {rs : List V} {L : List (List Nat)} (h : Lots H rs L) (hx : H x = some (.ins C dx fs)) (b : XB x H H') : Lots H' rs L := ⟨h.1, fun i r ns u v => (h.2 i r ns u v).xb hx b⟩
theorem FamAt.xb {x a CF C dx : Addr} {H H' : Hp} {fs : List (Str × V)} {size : Nat} {fm : List Nat} (h : FamAt H CF a size fm) (ha : a ≠ x) (hx : H x = some (.ins C dx fs)) (b : XB x H H') : FamAt H' CF a size fm := by
  obtain ⟨dx2, fs2, tl, rs, h1, h2, h3, h4, h5, h6⟩ := h
  exact ⟨dx2, fs2, tl, rs, b _ _ ha h1, h2, h3, h4, b _ _ (fun e => by rw [e, hx] at h5; cases h5) h5, h6.xb hx b⟩
def rkF (fm : List Nat) (t : Nat) : Nat := mn (fm.map fun m => bits (m ^^^ t))
/-- no method hidden by an attribute -/
def NoM (fs : List (Str × V)) : Prop := fs.lookup ("rank_of" : Str) = none ∧ fs.lookup ("bases" : Str) = none ∧ fs.lookup ("loops" : Str) = none ∧ fs.lookup ("alike" : Str) = none ∧ fs.lookup ("is_independent" : Str) = none ∧ fs.lookup ("circuits" : Str) = none ∧ fs.lookup ("coloops" : Str) = none ∧ fs.lookup ("spans" : Str) = none ∧ fs.lookup ("lumps" : Str) = none
def AtAt (H : Hp) (CF CA b : Addr) (size : Nat) (fm : List Nat) (t : Nat) : Prop := ∃ (a dx : Addr) (fs : List (Str × V)) (bp : Addr) (rs : List V) (bm : List Nat), H b = some (.ins CA dx fs) ∧ fs.lookup ("family" : Str) = some (.ref a) ∧ fs.lookup ("_bases" : Str) = some (.ref bp) ∧ fs.lookup ("rank" : Str) = some (.int (rkF fm t : Nat)) ∧ NoM fs ∧ H bp = some (.tup rs) ∧ Lots H rs (bm.map lotF) ∧ (bm.Perm (basesF fm t) ∧ (bm.map lotF).Pairwise lexLe) ∧ FamAt H CF a size fm
theorem AtAt.ex {H H' : Hp} {CF CA b : Addr} {size : Nat} {fm : List Nat} {t : Nat} (h : AtAt H CF CA b size fm t) (e : Ex H H') : AtAt H' CF CA b size fm t := by
  obtain ⟨a, dx, fs, bp, rs, bm, h1, h2, h3, h4, h5, h6, h7, h8, h9⟩ := h
  exact ⟨a, dx, fs, bp, rs, bm, e _ _ h1, h2, h3, h4, h5, e _ _ h6, h7.ex e, h8, h9.ex e⟩
theorem bases_bits {fm : List Nat} {t b : Nat} (h : b ∈ basesF fm t) : bits b = rkF fm t := by
  obtain ⟨m, hm, rfl⟩ := List.mem_map.mp h
  exact of_decide_eq_true (List.mem_filter.mp hm).2
theorem bases_ne {fm : List Nat} {t : Nat} (h : fm ≠ []) : basesF fm t ≠ [] := by
  have h2 : fm.map (fun m => bits (m ^^^ t)) ≠ [] := by simpa using h
  obtain ⟨m, hm, e⟩ := List.mem_map.mp (mn_ok h2).1
  exact List.ne_nil_of_mem (List.mem_map.mpr ⟨m, List.mem_filter.mpr ⟨hm, decide_eq_true e⟩, rfl⟩)
theorem bases_lt {size : Nat} {fm : List Nat} {t : Nat} (ok : FamOk size fm) (ht : t < 1 <<< size) {b : Nat} (h : b ∈ basesF fm t) : b < 32 := by
  obtain ⟨m, hm, rfl⟩ := List.mem_map.mp h
  exact sh32 ok.s5 (xor_lt_sh (ok.lt m (List.mem_filter.mp hm).1) ht)
theorem s_fldV {K : PySem.W.Frag} {σ : L2.St} {H : Hp} {D : Ends} {tv : TE} {x C dx : Addr} {fs : List (Str × V)} {f : Str} {v : V} (h : Ev tv σ H v) (hσ : σ[0]? = some (some (.ref x))) (hx : H x = some (.ins C dx fs)) (c : Cls K C) (n : NoAttr K C f) (hl : fs.length < 1000)
    (k : ∀ H1, Ex H H1 → D.nx σ (upd H1 x (.ins C dx (putF f v fs)))) : sFld K (tVar 0) tv f D σ H := h H (Ex.refl H) _ fun H1 e1 => ⟨.ref x, hσ, x, C, dx, fs, rfl, e1 _ _ hx, c, n, hl, k H1 e1⟩
theorem ev_lenT {K : PySem.W.Frag} {σ : L2.St} {H : Hp} {ta : TE} {p : Addr} {xs : List V} (ha : Ev ta σ H (.ref p)) (h : SqT K H p xs) : Ev (tCB (rLenS K) (tCons ta tNil)) σ H (.int (xs.length : Int)) := fun H1 e Q q =>
  ha H1 e _ fun H2 e2 => ⟨p, xs, rfl, Or.inr (ex_t (e.trans e2) h), q H2 e2⟩
theorem ev_lenV {K : PySem.W.Frag} {σ : L2.St} {H : Hp} {ta : TE} {v : V} {ns : List Nat} (ha : Ev ta σ H v) (h : TupV H v ns) : Ev (tCB (rLenS K) (tCons ta tNil)) σ H (.int (ns.length : Nat)) := by
  obtain ⟨p, rfl, hp⟩ := h
  exact ev_is (ev_lenT ha (st_of hp)) (by rw [nv_len])
section
variable {P : Program} {w : World} {K : PySem.W.Frag} {mg : Str → Option Value} {base : Heap} {f : Addr} {fd : FuncData} {CF CA : Addr}
def spAt (CF CA : Addr) : Sp := fun vs H Q _ => ∃ (x a p dx : Addr) (size : Nat) (fm : List Nat) (t : Nat), vs = [.ref x, .ref a, .ref p] ∧ a ≠ x ∧ H x = some (.ins CA dx []) ∧ FamAt H CF a size fm ∧ FamOk size fm ∧ RowsOk size fm ∧ t < 1 <<< size ∧ LotA H p (lotF t) ∧
  ∀ H', XB x H H' → AtAt H' CF CA x size fm t → Q .non H'
def rkOf (fm : List Nat) (t u : Nat) : Nat := mx ((basesF fm t).map fun b => bits (b &&& u))
def spRank (CF CA : Addr) : Sp := fun vs H Q _ => ∃ (b p : Addr) (size : Nat) (fm : List Nat) (t u : Nat), vs = [.ref b, .ref p] ∧ AtAt H CF CA b size fm t ∧ FamOk size fm ∧ t < 1 <<< size ∧ u < 1 <<< size ∧ LotA H p (lotF u) ∧ RetV (.int (rkOf fm t u : Nat)) H Q
end
end W7
end
section
namespace W7
open PySem PySem.Spec PyProof.Rows L2 L3 Evl
open C8 (Cal pe_c Mak pe_mk Met pe_mt pe_mt0)
theorem sortLots_at {K : PySem.W.Frag} {H : Hp} {rs : List V} {L : List (List Nat)} (hL : Lots H rs L) : ∃ k : V → List Int, (∀ x ∈ rs, TupN K H x (k x)) ∧ ∀ (ys : List V) (p : Addr), ys.Perm rs → ys.Pairwise (fun x y => k x ≤ k y) → H p = none → ∃ M : List (List Nat), M.Perm L ∧ M.Pairwise lexLe ∧ Lots (upd H p (.lst ys)) ys M := by
  have ht : ∀ r ∈ rs, TupV H r (lotOf H r) := fun r hr => by
    obtain ⟨ns, _, h3⟩ := hL.mem hr
    rw [h3.lotOf]; exact h3
  refine ⟨fun r => (lotOf H r).map fun n => ((n : Nat) : Int), fun r hr => ?_, fun ys p h3 h4 hl => ⟨ys.map (lotOf H), ?_, ?_, ?_⟩⟩
  · obtain ⟨t, rfl, h3⟩ := ht r hr
    refine ⟨t, rfl, st_of ?_⟩
    rw [h3, List.map_map]; rfl
  · rw [← hL.eq]; exact h3.map _
  · rw [List.pairwise_map]; exact h4
  · exact (lots_of fun r hr => ht r (h3.mem_iff.mp hr)).ex (Ex.new hl)
def keyL (m : Nat) : List Key := (lotF m).map fun n => Sum.inl ((n : Nat) : Int)
theorem key_nv (m : Nat) : (keyL m).map kV = nv (lotF m) := by
  unfold keyL nv
  rw [List.map_map]; rfl
theorem key_inj {m n : Nat} (hm : m < 64) (hn : n < 64) (h : keyL m = keyL n) : m = n := by
  have h2 : nv (lotF m) = nv (lotF n) := by rw [← key_nv, ← key_nv, h]
  have := congrArg orF (nv_inj h2)
  rwa [orF_lot m hm, orF_lot n hn] at this
def kvF (ms : List Nat) : List (List Key × V) := ms.map fun m => (keyL m, V.bl true)
theorem kv_none {ms : List Nat} {m : Nat} (h64 : ∀ x ∈ ms, x < 64) (hm : m < 64) (h : m ∉ ms) : valV (kvF ms) (keyL m) = none := by
  unfold valV kvF
  rw [List.find?_map, Option.map_map, Option.map_eq_none_iff, List.find?_eq_none]
  intro x hx
  simp only [Function.comp, decide_eq_true_eq]
  intro e
  exact h (key_inj (h64 x hx) hm e ▸ hx)
theorem kv_put {ms : List Nat} {m : Nat} (h64 : ∀ x ∈ ms, x < 64) (hm : m < 64) (h : m ∉ ms) : putK (kvF ms) (keyL m) (V.bl true) = kvF (ms ++ [m]) := by
  unfold putK
  rw [if_neg]
  · unfold kvF
    rw [List.map_append]; rfl
  · rw [List.any_eq_true]
    rintro ⟨kv, hkv, e⟩
    obtain ⟨x, hx, rfl⟩ := List.mem_map.mp hkv
    exact h (key_inj (h64 x hx) hm (of_decide_eq_true e) ▸ hx)
theorem keys_lots {H : Hp} {ms : List Nat} {bs : List Addr} (h : IsKeys H (kvF ms) bs) : Lots H (bs.map V.ref) (ms.map lotF) := by
  have h2 : Paired (fun (p : List Key × V) b => H b = some (.tup (p.1.map kV))) (kvF ms) bs := h
  refine ⟨by rw [List.length_map, List.length_map, ← h2.length]; unfold kvF; rw [List.length_map], fun i r ns a b => ?_⟩
  clear h
  induction ms generalizing bs i with
  | nil => simp at b
  | cons m ms ih =>
    cases h2 with
    | cons r1 rr =>
      cases i with
      | zero =>
        simp at a b
        subst a b
        refine ⟨_, rfl, ?_⟩
        rw [r1, key_nv]
      | succ i => exact ih rr i a b
theorem upd_lots {H : Hp} {p : Addr} {o : HO} {rs : List V} {L : List (List Nat)} (h : Lots H rs L) (hp : H p = none) : Lots (upd H p o) rs L := h.ex (Ex.new hp)
section
variable {P : Program} {w : World} {K : PySem.W.Frag} {mg : Str → Option Value} {base : Heap} {f : Addr} {fd : FuncData} {CF : Addr}
def spSize : Sp := fun vs H Q _ => ∃ size : Nat, vs = [.int size] ∧ 1 ≤ size ∧ size ≤ 10 ∧ RetV (.int size) H Q
theorem sc_check_family_size : FnScope ["size"] ["size"] (defScope (top 28)) := ⟨rfl, rfl, rfl, by decide +kernel, rfl, by decide +kernel, by decide +kernel⟩
theorem c_check_family_size (F : FnP K "check_family_size" (top 28) f fd) (g : mg "check_family_size" = some (.ref f)) (B : Bi mg) (c_is_int : Cal P w K mg base 1 "is_int" spIsInt []) : Cal P w K mg base 2 "check_family_size" spSize [] := by
  refine mkCal F g sc_check_family_size (fun _ _ _ _ _ _ us hl => match us, hl with | [_], _ => rfl) (fun vs H Q E h => ?_) (fun cdv A outer s H vs Q E hr h => ?_)
  · obtain ⟨size, rfl, _⟩ := h
    rfl
  · obtain ⟨size, rfl, h1, h10, q⟩ := h
    refine ⟨_, (pss_cons (ps_if (PW.pt (pw_or (pt_not (pt_val (pe_c c_is_int hr (by decide) rfl (pa_cons (pv 0) pa_nil)))) (pw_or1 (pt_not (pt_chain on_le on_le (pe_nat 1 pe_int) (pv 0) (pe_nat 10 pe_int)))))) (pss_one ps_never) pss_nil) (pss_one (ps_ret (pv 0)))), ?_⟩
    refine q_when (b := !true || !(decide (1 ≤ size) && decide (size ≤ 10))) (et_or (et_not (et_B (ev_call (ea_cons (ev_v 0) ea_nil) fun H2 e2 Q2 q2 E2 => ⟨_, rfl, q2⟩))) fun _ => et_not (et_test (ev_chainN (g := fun a b => decide (a ≤ b)) (g' := fun a b => decide (a ≤ b)) ev_c (ev_v 0) ev_c))) (fun hb => absurd hb (by simp [h1, h10])) (fun _ H1 e1 => ?_)
    exact s_ret (ev_v 0) fun H2 e2 => q H2 (e1.trans e2)
def spRows : Sp := fun vs H Q _ => ∃ (size : Nat) (p : Addr) (rs : List V) (ms : List Nat), vs = [.int size, .ref p] ∧ size ≤ 5 ∧ H p = some (.lst rs) ∧ Lots H rs (ms.map lotF) ∧ ms.Nodup ∧ ms ≠ [] ∧ (∀ m ∈ ms, m < 1 <<< size) ∧ ms.length ≤ 64 ∧ RetLots (ms.map lotF) H Q
theorem sc_checked_rows : FnScope ["size", "lots", "rows", "place", "lot", "row"] ["size", "lots"] (defScope (top 29)) := ⟨rfl, rfl, rfl, by decide +kernel, rfl, by decide +kernel, by decide +kernel⟩
theorem c_checked_rows (F : FnP K "checked_rows" (top 29) f fd) (g : mg "checked_rows" = some (.ref f)) (B : Bi mg) (c_is_list : Cal P w K mg base 1 "is_list" spIsList []) (c_is_lot : Cal P w K mg base 3 "is_lot" spIsLot []) : Cal P w K mg base 4 "checked_rows" spRows [] := by
  refine mkCal F g sc_checked_rows (fun _ _ _ _ _ _ us hl => match us, hl with | [_, _], _ => rfl) (fun vs H Q E h => ?_) (fun cdv A outer s H vs Q E hr h => ?_)
  · obtain ⟨size, p, rs, ms, rfl, _⟩ := h
    rfl
  · obtain ⟨size, p, rs, ms, rfl, hz, hp, hL, hnd, hne, hlt, hlen, q⟩ := h
    have h64 := pow64 (n := size) (by omega)
    have hlt64 : ∀ m ∈ ms, m < 64 := fun m hm => Nat.lt_of_lt_of_le (hlt m hm) h64
    have hrl : rs.length = ms.length := by rw [hL.1, List.length_map]
    have hpos : 0 < ms.length := List.length_pos_iff.mpr hne
    refine ⟨_, (pss_cons (ps_if (pt_not (pt_val (pe_c c_is_list hr (by decide) rfl (pa_cons (pv 1) pa_nil)))) (pss_one ps_never) pss_nil) (pss_cons (ps_if (pt_cmpR on_eq (pe_callB call_len_seq (by rfl) B.len (by decide +kernel) (pa_cons (pv 1) pa_nil)) (pe_nat 0 pe_int) (nomark _)) (pss_one ps_never) pss_nil) (pss_cons (ps_set (i := 2) sc_checked_rows.nd rfl (by first | exact Or.inl rfl | exact Or.inr rfl) pe_dnewT) (pss_cons (ps_for PassesOwn.never rfl (pi_enumA (by rfl) B.enumerate (pa_cons (pv 1) pa_nil)) (pg_tup rfl (pgs_cons (pg_name (i := 3) sc_checked_rows.nd rfl (by first | exact Or.inl rfl | exact Or.inr rfl)) (pgs_cons (pg_name (i := 4) sc_checked_rows.nd rfl (by first | exact Or.inl rfl | exact Or.inr rfl)) pgs_nil))) (pss_cons (ps_set (i := 5) sc_checked_rows.nd rfl (by first | exact Or.inl rfl | exact Or.inr rfl) (pe_ifExp (pt_val (pe_c c_is_lot hr (by decide) rfl (pa_cons (pv 4) (pa_cons (pv 0) pa_nil)))) (pe_callTy call_tuple_of (by rfl) B.tuple (by decide +kernel) (pa_cons (pe_callB cr_sortedA (by rfl) B.sorted (by decide +kernel) (pa_cons (pv 4) pa_nil)) pa_nil)) pe_non)) (pss_cons (ps_if (PW.pt (pw_or (pt_cmp (pc_isN (pv 5))) (pw_or1 (pt_cmp (pc_din (hu_of hr) (pv 5) (pv 2)))))) (pss_one ps_never) pss_nil) (pss_one (ps_dput (hu_of hr) (pv 2) (pv 5) pe_bl rfl))))) (pss_one (ps_ret (pe_callTy (call_list_dT rfl) (by rfl) B.list (by decide +kernel) (pa_cons (pv 2) pa_nil)))))))), ?_⟩
    refine ⟨.ref p, rfl, p, rs, rfl, .inl hp, fun H1 e1 => ⟨true, rfl, ?_⟩⟩
    refine iteF ?_
    refine ⟨.ref p, rfl, p, rs, rfl, .inl (sq_of (e1 _ _ hp)), rs.length, 0, rfl, rfl, _, rfl, ?_⟩
    refine ite2 (fun hb => absurd (of_decide_eq_true hb) (by omega)) (fun _ => ?_)
    intro d hd
    have e12 := e1
    have hdH := fresh_back e12 hd
    have ed := Ex.new (o := .dT []) hd
    refine ⟨.ref p, rfl, p, rs, rfl, .inl ⟨sq_of (ed _ _ (e12 _ _ hp)), for_enumL (fun i σ H' => Ex H H' ∧ H' d = some (.dT (kvF (ms.take i))) ∧ ∃ v3 v4 v5, σ = [some (.int size), some (.ref p), some (.ref d), v3, v4, v5]) ⟨e12.trans ed, upd_same, _, _, _, rfl⟩ (fun i σ H' _ h => sq_of (h.1 _ _ hp)) ?_ ?_⟩⟩
    · rintro i x σ H' T hx ⟨e0, h0, v3, v4, v5, rfl⟩ hT
      have hi : i < ms.length := by rw [← hrl]; exact (List.getElem?_eq_some_iff.mp hx).1
      have hn : ms[i]? = some ms[i] := List.getElem?_eq_some_iff.mpr ⟨hi, rfl⟩
      have eT := Ex.new (o := .tup [.int (i : Nat), x]) hT
      obtain ⟨b, rfl, hb⟩ := ((hL.2 i x (lotF ms[i]) hx (by rw [List.getElem?_map, hn]; rfl)).ex e0).ex eT
      have hm := List.getElem_mem hi
      have hnin : ms[i] ∉ ms.take i := fun h => by
        obtain ⟨j, hj, e2⟩ := List.getElem_of_mem h
        rw [List.length_take] at hj
        rw [List.getElem_take] at e2
        exact (List.pairwise_iff_getElem.mp hnd) j i (by omega) hi (by omega) e2
      have htk : ms.take (i + 1) = ms.take i ++ [ms[i]] := by rw [List.take_add_one, hn]; rfl
      generalize ms[i] = m at hb hm hnin htk hn
      have lo := lot_ok (hlt m hm) (by omega)
      refine ⟨T, [.int (i : Nat), .ref b], rfl, st_of upd_same, rfl, _, _, rfl, _, _, rfl, rfl, ?_⟩
      have e3 := e0.trans eT
      have h3 := eT _ _ h0
      generalize upd H' T (.tup [.int (i : Nat), .ref b]) = H3 at e3 h3 hb
      refine ⟨.ref b, rfl, .int size, rfl, b, lotF m, size, rfl, .inr hb, lo.1, fun H4 e4 => ⟨true, rfl, ?_⟩⟩
      refine ⟨.ref b, rfl, b, inI m, rfl, .inr (st_of (by rw [e4 _ _ hb]; unfold nv inI; rw [List.map_map]; rfl)), fun is l i3 i4 hl => ⟨l, is.map V.int, rfl, .inl ⟨sq_of upd_same, fun r hr => ?_⟩⟩⟩
      have his : is.map V.int = nv (lotF m) := by
        obtain ⟨ns, rfl⟩ : ∃ ns : List Nat, is = ns.map fun n => ((n : Nat) : Int) := by
          refine ⟨is.map Int.toNat, ?_⟩
          rw [List.map_map]
          have : ∀ i ∈ is, ((fun n => ((n : Nat) : Int)) ∘ Int.toNat) i = id i := fun i hi => by
            obtain ⟨n, _, rfl⟩ := List.mem_map.mp (i3.mem_iff.mp hi)
            rfl
          rw [List.map_congr_left this, List.map_id]
        have h5 : ns.Perm (lotF m) := by
          have := i3.map Int.toNat
          unfold inI at this
          simpa [List.map_map, Function.comp_def] using this
        have h6 : ns.Pairwise (· ≤ ·) := by
          rw [List.pairwise_map] at i4
          exact i4.imp fun h => by omega
        rw [sorted_eq h5 h6 lo.2]
        unfold nv; rw [List.map_map]; rfl
      rw [his] at hr ⊢
      have e5 := e4.trans ((Ex.new (o := .lst (nv (lotF m))) hl).trans (Ex.new (o := .tup (nv (lotF m))) hr))
      have hr5 : upd (upd H4 l (.lst (nv (lotF m)))) r (.tup (nv (lotF m))) r = some (.tup (nv (lotF m))) := upd_same
      generalize upd (upd H4 l (.lst (nv (lotF m)))) r (.tup (nv (lotF m))) = H5 at e5 hr5
      have h5 := e5 _ _ h3
      have hkey : H5 r = some (.tup ((keyL m).map kV)) := by rw [key_nv]; exact hr5
      have hv := kv_none (ms := ms.take i) (fun x hx => hlt64 x (List.mem_of_mem_take hx)) (hlt64 m hm) hnin
      have hput := kv_put (ms := ms.take i) (fun x hx => hlt64 x (List.mem_of_mem_take hx)) (hlt64 m hm) hnin
      refine ⟨.ref r, rfl, false, rfl, ?_⟩
      refine ⟨.ref r, rfl, .ref d, rfl, d, _, rfl, .inr ⟨kvF (ms.take i), keyL m, r, .inl h5, rfl, hkey, rfl⟩, ?_⟩
      rw [hv]
      refine ⟨false, rfl, ?_⟩
      refine ⟨.ref d, rfl, .ref r, rfl, d, _, rfl, .inr ⟨kvF (ms.take i), keyL m, r, h5, rfl, hkey, ?_, rfl⟩, ?_⟩
      · unfold kvF
        rw [List.length_map, List.length_take]
        exact sz_lt (by omega)
      · refine ⟨Ex.mut (e3.trans e5) hdH, ?_, _, _, _, rfl⟩
        rw [upd_same, hput, ← htk]
    · rintro σ H' ⟨e0, h0, v3, v4, v5, rfl⟩
      rw [hrl, List.take_length] at h0
      refine ⟨.ref d, rfl, d, kvF ms, rfl, .inl h0, fun l bs hl hk => ?_⟩
      exact q l (bs.map V.ref) _ (fresh_back e0 hl) (e0.trans (Ex.new hl)) upd_same (upd_lots (keys_lots hk) hl)
/-- the dict of a family's lots -/
def FamIn (H : Hp) (CF a : Addr) (fm : List Nat) : Prop := ∃ dx fs d, H a = some (.ins CF dx fs) ∧ fs.lookup ("_inside" : Str) = some (.ref d) ∧ fs.lookup ("has" : Str) = none ∧ H d = some (.dT (dLots (.bl true) (fm.map keyL)))
theorem FamIn.ex {H H' : Hp} {CF a : Addr} {fm : List Nat} (h : FamIn H CF a fm) (e : Ex H H') : FamIn H' CF a fm := by
  obtain ⟨dx, fs, d, h1, h2, h3, h4⟩ := h
  exact ⟨dx, fs, d, e _ _ h1, h2, h3, e _ _ h4⟩
def spFamI (CF : Addr) : Sp := fun vs H Q _ => ∃ (x p dx : Addr) (size : Nat) (rs : List V) (ms : List Nat), vs = [.ref x, .int size, .ref p] ∧ H x = some (.ins CF dx []) ∧ 1 ≤ size ∧ size ≤ 5 ∧ H p = some (.lst rs) ∧ Lots H rs (ms.map lotF) ∧ ms.Nodup ∧ ms ≠ [] ∧ (∀ m ∈ ms, m < 1 <<< size) ∧ ms.length ≤ 64 ∧
  ∀ H' fm, XB x H H' → fm.Perm ms → (fm.map lotF).Pairwise lexLe → FamAt H' CF x size fm → FamIn H' CF x fm → Q .non H'
theorem sc_Family___init : FnScope ["self", "size", "lots", "lot"] ["self", "size", "lots"] (defScope (inClass (top 30) 0)) := ⟨rfl, rfl, rfl, by decide +kernel, rfl, by decide +kernel, by decide +kernel⟩
theorem m_Family (C : FC K CF) (M : Mk K CF f) (hm : mg "Family" = some (.ref CF)) (F : FunD K "__init__" "Family.__init__" (defArgs (inClass (top 30) 0)) (defBody (inClass (top 30) 0)) (defScope (inClass (top 30) 0)) [] [] f fd) (B : Bi mg) (c_check_family_size : Cal P w K mg base 2 "check_family_size" spSize []) (c_checked_rows : Cal P w K mg base 4 "checked_rows" spRows []) : Mak P w K mg base 5 "Family" CF (spFamI CF) [] := by
  refine mkMak M hm F sc_Family___init (fun _ _ _ _ _ _ us hl => match us, hl with | [_, _, _], _ => rfl) (fun vs H Q E h => ?_) (fun cdv A outer s H vs Q E hr h => ?_)
  · obtain ⟨x, p, dx, size, rs, ms, rfl, _⟩ := h
    rfl
  · obtain ⟨x, p, dx, size, rs, ms, rfl, hx, h1, h5, hp, hL, hnd, hne, hlt, hlen, q⟩ := h
    have h64 := pow64 (n := size) (by omega)
    refine ⟨_, (pss_cons (ps_fld (pv 0) (pe_c c_check_family_size hr (by decide) rfl (pa_cons (pv 1) pa_nil)) rfl) (pss_cons (ps_fld (pv 0) (pe_callTy call_tuple_of (by rfl) B.tuple (by decide +kernel) (pa_cons (pe_callB (cr_sortLots hr.units) (by rfl) B.sorted (by decide +kernel) (pa_cons (pe_c c_checked_rows hr (by decide) rfl (pa_cons (pv 1) (pa_cons (pv 2) pa_nil))) pa_nil)) pa_nil)) rfl) (pss_one (ps_fld (pv 0) (pe_dLots rfl (Nat.lt_of_succ_lt (hu_of hr)) (blkOk_by (own := [("lot", 3)]) (N := ["self", "size", "lots", "lot"]) (sc := defScope (inClass (top 30) 0)) (by decide +kernel)) (pe_fld (pv 0) rfl)) rfl)))), ?_⟩
    refine s_fldV (D := { nx := _, rt := _, bk := _, ct := _ }) (ev_call (ea_cons (ev_v 1) ea_nil) fun H2 e2 Q2 q2 E2 => ⟨size, rfl, h1, by omega, q2⟩) rfl hx C.cls C.a1 (by decide) fun H1 e1 => ?_
    have hx1 := e1 _ _ hx
    have hpx : p ≠ x := fun e => by rw [e, hx] at hp; cases hp
    have b2 : XB x H1 (upd H1 x (.ins CF dx (putF "size" (.int size) []))) := fun b o n h => by rw [upd_ne n]; exact h
    have hx2 : upd H1 x (.ins CF dx (putF "size" (.int size) [])) x = some (.ins CF dx (putF "size" (.int size) [])) := upd_same
    generalize upd H1 x (.ins CF dx (putF "size" (.int size) [])) = H2 at b2 hx2
    have p2 := b2 _ _ hpx (e1 _ _ hp)
    have LL2 := (hL.ex e1).xb hx1 b2
    refine ⟨.int size, rfl, .ref p, rfl, size, p, rs, ms, rfl, h5, p2, LL2, hnd, hne, hlt, hlen, fun l rs3 H3 hl e3 h3 L3 => ?_⟩
    obtain ⟨k, k1, k2⟩ := sortLots_at (K := K) L3
    refine ⟨l, rs3, k, rfl, sq_of h3, k1, fun rs4 q4 y1 y2 hq4 => ?_⟩
    obtain ⟨M, m1, m2, L4⟩ := k2 rs4 q4 y1 y2 hq4
    have e4 := Ex.new (o := .lst rs4) hq4
    have h4 : upd H3 q4 (.lst rs4) q4 = some (.lst rs4) := upd_same
    generalize upd H3 q4 (.lst rs4) = H4 at e4 h4 L4
    obtain ⟨fm, rfl, hfm⟩ := perm_lots m1 fun b hb => Nat.lt_of_lt_of_le (hlt b hb) h64
    refine ⟨q4, rs4, rfl, .inl ⟨sq_of h4, fun tl htl => ?_⟩⟩
    have e5 := Ex.new (o := .tup rs4) htl
    have hx5 := e5 _ _ (e4 _ _ (e3 _ _ hx2))
    have L5 := L4.ex e5
    have t5 : upd H4 tl (.tup rs4) tl = some (.tup rs4) := upd_same
    have htx : tl ≠ x := fun e => by rw [e, e4 _ _ (e3 _ _ hx2)] at htl; cases htl
    generalize upd H4 tl (.tup rs4) = H5 at e5 hx5 L5 t5
    refine ⟨.ref x, rfl, x, CF, dx, _, rfl, hx5, C.cls, C.a2, by show 1 < 1000; decide, ?_⟩
    have b6 : XB x H5 (upd H5 x (.ins CF dx (putF "lots" (.ref tl) (putF "size" (.int size) [])))) := fun b o n h => by rw [upd_ne n]; exact h
    have hx6 : upd H5 x (.ins CF dx (putF "lots" (.ref tl) (putF "size" (.int size) []))) x = some (.ins CF dx (putF "lots" (.ref tl) (putF "size" (.int size) []))) := upd_same
    generalize upd H5 x (.ins CF dx (putF "lots" (.ref tl) (putF "size" (.int size) []))) = H6 at b6 hx6
    have t6 := b6 _ _ htx t5
    have L6 := L5.xb hx5 b6
    have ka : KeysAt H6 rs4 (fm.map keyL) := by
      refine ⟨by rw [L6.1, List.length_map, List.length_map], fun i y hy => ?_⟩
      have hi : i < fm.length := by have := L6.1; rw [List.length_map] at this; rw [← this]; exact (List.getElem?_eq_some_iff.mp hy).1
      have hn : fm[i]? = some fm[i] := List.getElem?_eq_some_iff.mpr ⟨hi, rfl⟩
      obtain ⟨b, rfl, hb⟩ := L6.2 i y (lotF fm[i]) hy (by rw [List.getElem?_map, hn]; rfl)
      exact ⟨b, keyL fm[i], rfl, by rw [List.getElem?_map, hn]; rfl, by rw [key_nv]; exact hb⟩
    have hl4 : rs4.length < sizeLine := by
      have := L6.1
      rw [List.length_map, hfm.length_eq] at this
      exact sz_lt (by omega)
    refine ⟨.ref x, rfl, x, CF, dx, _, .ref tl, rfl, hx6, C.cls, C.a2, rfl, tl, rs4, fm.map keyL, rfl, st_of t6, ka, hl4, fun D hD => ⟨.ref x, rfl, x, CF, dx, _, rfl, Ex.new hD _ _ hx6, C.cls, C.a3, by show 2 < 1000; decide, ?_⟩⟩
    have e7 := Ex.new (o := .dT (dLots (.bl true) (fm.map keyL))) hD
    have b8 : XB x (upd H6 D (.dT (dLots (.bl true) (fm.map keyL)))) (upd (upd H6 D (.dT (dLots (.bl true) (fm.map keyL)))) x (.ins CF dx (putF "_inside" (.ref D) (putF "lots" (.ref tl) (putF "size" (.int size) []))))) := fun b o n h => by rw [upd_ne n]; exact h
    refine q _ fm (fun b o n h => b8 _ _ n (e7 _ _ (b6 _ _ n (e5 _ _ (e4 _ _ (e3 _ _ (b2 _ _ n (e1 _ _ h)))))))) hfm m2 ⟨dx, _, tl, rs4, upd_same, rfl, rfl, rfl, b8 _ _ htx (e7 _ _ t6), (L6.ex e7).xb (e7 _ _ hx6) b8⟩ ⟨dx, _, D, upd_same, rfl, rfl, b8 _ _ (fun e => by rw [e, hx6] at hD; cases hD) upd_same⟩
end
end W7
end
section
namespace W7
/-! ### counting things of masks below 32 -/
theorem bit_off : ∀ a : Nat, a < 32 → ∀ x : Nat, x < 5 → a.testBit x = true → bits (a ^^^ (1 <<< x)) + 1 = bits a := by decide +kernel
theorem bit_on : ∀ a : Nat, a < 32 → ∀ x : Nat, x < 5 → a.testBit x = false → bits (a ^^^ (1 <<< x)) = bits a + 1 := by decide +kernel
theorem more_bits : ∀ a : Nat, a < 32 → ∀ b : Nat, b < 32 → bits b < bits a → ∃ n, n < 5 ∧ a.testBit n = true ∧ b.testBit n = false := by
  have h : ∀ a : Nat, a < 32 → ∀ b : Nat, b < 32 → (Nat.blt (bits b) (bits a) = true → (List.range 5).any (fun n => a.testBit n && !b.testBit n) = true) := by decide +kernel
  intro a ha b hb hl
  obtain ⟨n, hn, h2⟩ := List.any_eq_true.mp (h a ha b hb (by simpa [Nat.blt_eq] using hl))
  rw [Bool.and_eq_true, Bool.not_eq_true'] at h2
  exact ⟨n, List.mem_range.mp hn, h2.1, h2.2⟩
theorem tog_lt {p y : Nat} (hp : p < 32) (hy : y < 5) : p ^^^ (1 <<< y) < 32 := by
  rw [Nat.one_shiftLeft]
  exact Nat.xor_lt_two_pow (n := 5) hp (Nat.pow_lt_pow_right (by decide) hy)
theorem tb_tog (p y j : Nat) : (p ^^^ (1 <<< y)).testBit j = (p.testBit j != decide (y = j)) := by rw [Nat.testBit_xor, tb_sh]
theorem tog_ne {p y j : Nat} (h : y ≠ j) : (p ^^^ (1 <<< y)).testBit j = p.testBit j := by rw [tb_tog]; simp [h]
theorem tog_eq (p y : Nat) : (p ^^^ (1 <<< y)).testBit y = !p.testBit y := by rw [tb_tog]; simp
theorem tog_and {p y N : Nat} : (p ^^^ (1 <<< y)) &&& N = if N.testBit y then (p &&& N) ^^^ (1 <<< y) else p &&& N := by
  apply Nat.eq_of_testBit_eq
  intro j
  by_cases h : N.testBit y = true
  · rw [if_pos h, Nat.testBit_and, tb_tog, tb_tog, Nat.testBit_and]
    by_cases hj : y = j
    · subst hj; simp [h]
    · simp [hj]
  · rw [if_neg h, Nat.testBit_and, tb_tog, Nat.testBit_and]
    by_cases hj : y = j
    · subst hj; simp [h]
    · simp [hj]
theorem and32 {p N : Nat} (hp : p < 32) : p &&& N < 32 := Nat.lt_of_le_of_lt Nat.and_le_left hp
/-- taken out of N | put into N | beside N -/
theorem cn_off {p y N : Nat} (hp : p < 32) (hy : y < 5) (h1 : N.testBit y = true) (h2 : p.testBit y = true) : bits ((p ^^^ (1 <<< y)) &&& N) + 1 = bits (p &&& N) := by
  rw [tog_and, if_pos h1]
  exact bit_off _ (and32 hp) y hy (by rw [Nat.testBit_and, h1, h2]; rfl)
theorem cn_on {p y N : Nat} (hp : p < 32) (hy : y < 5) (h1 : N.testBit y = true) (h2 : p.testBit y = false) : bits ((p ^^^ (1 <<< y)) &&& N) = bits (p &&& N) + 1 := by
  rw [tog_and, if_pos h1]
  exact bit_on _ (and32 hp) y hy (by rw [Nat.testBit_and, h2]; rfl)
theorem cn_by {p y N : Nat} (h1 : N.testBit y = false) : bits ((p ^^^ (1 <<< y)) &&& N) = bits (p &&& N) := by
  rw [tog_and, if_neg (by rw [h1]; decide)]
theorem lt5 {p x : Nat} (hp : p < 32) (h : p.testBit x = true) : x < 5 := tb_lt (k := 5) hp h
/-! ### a least one -/
theorem least {α : Type} (f : α → Nat) (S : α → Prop) : (∃ a, S a) → ∃ a, S a ∧ ∀ b, S b → f a ≤ f b := by
  rintro ⟨a0, h0⟩
  have go : ∀ (n : Nat) (a : α), S a → f a ≤ n → ∃ a, S a ∧ ∀ b, S b → f a ≤ f b := by
    intro n
    induction n with
    | zero => intro a h hl; exact ⟨a, h, fun b _ => by omega⟩
    | succ n ih =>
      intro a h hl
      by_cases c : ∃ b, S b ∧ f b < f a
      · obtain ⟨b, hb, hl2⟩ := c
        exact ih b hb (by omega)
      · refine ⟨a, h, fun b hb => Nat.le_of_not_lt fun h2 => c ⟨b, hb, h2⟩⟩
  exact go (f a0) a0 h0 (Nat.le_refl _)
/-! ### each lot holds a least one -/
structure EXB (S : Nat → Prop) : Prop where
  ex : EX S
  lt : ∀ n, S n → n < 32
theorem EXB.filter {S : Nat → Prop} (h : EXB S) (m : Nat) : EXB (fun n => S n ∧ n.testBit m = false) := by
  refine ⟨fun p g hp hg x hx => ?_, fun n hn => h.lt n hn.1⟩
  have hxm : x ≠ m := fun e => by rw [e, Nat.testBit_xor, hp.2, hg.2] at hx; cases hx
  rcases h.ex p g hp.1 hg.1 x hx with h1 | ⟨y, h1, h2, h3⟩
  · exact .inl ⟨h1, by rw [tog_ne hxm]; exact hp.2⟩
  · have hym : y ≠ m := fun e => by rw [e, Nat.testBit_xor, hp.2, hg.2] at h2; cases h2
    exact .inr ⟨y, h1, h2, h3, by rw [tog_ne hym, tog_ne hxm]; exact hp.2⟩
theorem EXB.turn {S : Nat → Prop} (h : EXB S) {t : Nat} (ht : t < 32) : EXB (fun n => S (n ^^^ t)) := by
  refine ⟨h.ex.turn t, fun n hn => ?_⟩
  have h1 := h.lt _ hn
  have := Nat.xor_lt_two_pow (n := 5) h1 ht
  rwa [Nat.xor_assoc, Nat.xor_self, Nat.xor_zero] at this
theorem holds_least {S : Nat → Prop} (h : EXB S) {f : Nat} (hf : S f) : ∃ b, S b ∧ (∀ c, S c → bits b ≤ bits c) ∧ b &&& f = b := by
  obtain ⟨b0, hb0⟩ := least bits S ⟨f, hf⟩
  obtain ⟨b, ⟨hb, hm⟩, hd⟩ := least (fun b => bits (b ^^^ f)) (fun b => S b ∧ ∀ c, S c → bits b ≤ bits c) ⟨b0, hb0⟩
  refine ⟨b, hb, hm, ?_⟩
  apply Nat.eq_of_testBit_eq
  intro x
  rw [Nat.testBit_and]
  cases hx : b.testBit x with
  | false => rfl
  | true =>
    cases hfx : f.testBit x with
    | true => rfl
    | false =>
      exfalso
      have b32 := h.lt b hb
      have hx5 := lt5 b32 hx
      have hxd : (b ^^^ f).testBit x = true := by rw [Nat.testBit_xor, hx, hfx]; rfl
      have d32 : b ^^^ f < 32 := Nat.xor_lt_two_pow (n := 5) b32 (h.lt f hf)
      have h1 := bit_off b b32 x hx5 hx
      rcases h.ex b f hb hf x hxd with h2 | ⟨y, h2, h3, h4⟩
      · have := hm _ h2; omega
      · have hy5 := lt5 d32 h3
        have t32 := tog_lt b32 hx5
        cases hy : b.testBit y with
        | true =>
          have := bit_off _ t32 y hy5 (by rw [tog_ne (fun e => h2 e.symm)]; exact hy)
          have := hm _ h4
          omega
        | false =>
          have h5 := bit_on _ t32 y hy5 (by rw [tog_ne (fun e => h2 e.symm)]; exact hy)
          have e1 : (b ^^^ (1 <<< x) ^^^ (1 <<< y)) ^^^ f = (b ^^^ f) ^^^ (1 <<< x) ^^^ (1 <<< y) := by
            rw [Nat.xor_assoc, Nat.xor_assoc, Nat.xor_comm _ f, ← Nat.xor_assoc (1 <<< x), Nat.xor_comm (1 <<< x) f]
            simp only [Nat.xor_assoc]
          have h6 := bit_off _ d32 x hx5 hxd
          have h7 := bit_off _ (tog_lt d32 hx5) y hy5 (by rw [tog_ne (fun e => h2 e.symm)]; exact h3)
          have h8 := hd _ ⟨h4, fun c hc => by have := hm c hc; omega⟩
          rw [e1] at h8
          omega
/-! ### near and far: the step -/
/-- all that meet N least are without x -/
def LeastNo (S : Nat → Prop) (N x : Nat) : Prop := ∀ g, S g → (∀ c, S c → bits (g &&& N) ≤ bits (c &&& N)) → g.testBit x = false
theorem leastNo_filter {S : Nat → Prop} (h : EXB S) {N x m : Nat} (hN : N < 32) (hx : N.testBit x = false) (hm : N.testBit m = false) (hmx : m ≠ x) (h2 : LeastNo S N x) : LeastNo (fun n => S n ∧ n.testBit m = false) N x := by
  intro p0 hp0 hmin0
  cases hpx0 : p0.testBit x with
  | false => rfl
  | true =>
    exfalso
    obtain ⟨g0, hg0, hgm0⟩ := least (fun g => bits (g &&& N)) S ⟨p0, hp0.1⟩
    obtain ⟨⟨p, g⟩, ⟨hp, hpm, hpx, hg, hgm⟩, hd⟩ := least (fun q : Nat × Nat => bits (q.1 ^^^ q.2)) (fun q => (S q.1 ∧ q.1.testBit m = false) ∧ (∀ c, (S c ∧ c.testBit m = false) → bits (q.1 &&& N) ≤ bits (c &&& N)) ∧ q.1.testBit x = true ∧ S q.2 ∧ ∀ c, S c → bits (q.2 &&& N) ≤ bits (c &&& N)) ⟨(p0, g0), hp0, hmin0, hpx0, hg0, hgm0⟩
    simp only at hp hpm hpx hg hgm hd
    have p32 := h.lt p hp.1
    have g32 := h.lt g hg
    have hlt : bits (g &&& N) < bits (p &&& N) := by
      refine Nat.lt_of_not_le fun hle => ?_
      have := h2 p hp.1 (fun c hc => Nat.le_trans hle (hgm c hc))
      rw [hpx] at this; cases this
    obtain ⟨n, hn5, hn1, hn2⟩ := more_bits _ (and32 p32) _ (and32 g32) hlt
    rw [Nat.testBit_and, Bool.and_eq_true] at hn1
    rw [Nat.testBit_and, hn1.2, Bool.and_true] at hn2
    have hnm : n ≠ m := fun e => by rw [e, hm] at hn1; cases hn1.2
    have hnx : n ≠ x := fun e => by rw [e, hx] at hn1; cases hn1.2
    have hnd : (p ^^^ g).testBit n = true := by rw [Nat.testBit_xor, hn1.1, hn2]; rfl
    have d32 : p ^^^ g < 32 := Nat.xor_lt_two_pow (n := 5) p32 g32
    have c1 := cn_off p32 hn5 hn1.2 hn1.1
    have t32 := tog_lt p32 hn5
    -- the lots that meet N least have m
    have hgM : g.testBit m = true := by
      cases e : g.testBit m with
      | true => rfl
      | false => have := hpm g ⟨hg, e⟩; omega
    rcases h.ex p g hp.1 hg n hnd with h3 | ⟨y, h3, h4, h5⟩
    · have := hpm _ ⟨h3, by rw [tog_ne hnm]; exact hp.2⟩
      omega
    · have hy5 := lt5 d32 h4
      have hny : n ≠ y := fun e => h3 e.symm
      by_cases hym : y = m
      · subst hym
        -- one less: it meets N least
        have hle : bits (p &&& N) ≤ bits (g &&& N) + 1 := by
          have hmd : (g ^^^ p).testBit y = true := by rw [Nat.xor_comm]; exact h4
          rcases h.ex g p hg hp.1 y hmd with h6 | ⟨z, h6, h7, h8⟩
          · have := hpm _ ⟨h6, by rw [tog_eq, hgM]; rfl⟩
            rw [cn_by hm] at this
            omega
          · have h9 := hpm _ ⟨h8, by rw [tog_ne h6, tog_eq, hgM]; rfl⟩
            have hz5 := lt5 (by rw [Nat.xor_comm]; exact d32) h7
            have e1 := cn_by (p := g) hm
            cases hz : N.testBit z with
            | false => rw [cn_by hz, e1] at h9; omega
            | true =>
              cases hgz : (g ^^^ (1 <<< y)).testBit z with
              | true => have := cn_off (tog_lt g32 hy5) hz5 hz hgz; omega
              | false => have := cn_on (tog_lt g32 hy5) hz5 hz hgz; omega
        have e2 := cn_by (p := p ^^^ (1 <<< n)) hm
        have := h2 _ h5 (fun c hc => by have := hgm c hc; omega)
        rw [tog_ne hmx, tog_ne hnx, hpx] at this
        cases this
      · have hin : S (p ^^^ (1 <<< n) ^^^ (1 <<< y)) ∧ (p ^^^ (1 <<< n) ^^^ (1 <<< y)).testBit m = false := ⟨h5, by rw [tog_ne hym, tog_ne hnm]; exact hp.2⟩
        have h6 := hpm _ hin
        cases hyN : N.testBit y with
        | false => rw [cn_by hyN] at h6; omega
        | true =>
          cases hpy : p.testBit y with
          | true =>
            have := cn_off t32 hy5 hyN (by rw [tog_ne hny]; exact hpy)
            omega
          | false =>
            have c2 := cn_on t32 hy5 hyN (by rw [tog_ne hny]; exact hpy)
            have hyx : y ≠ x := fun e => by rw [e, hx] at hyN; cases hyN
            have e1 : (p ^^^ (1 <<< n) ^^^ (1 <<< y)) ^^^ g = (p ^^^ g) ^^^ (1 <<< n) ^^^ (1 <<< y) := by
              rw [Nat.xor_assoc, Nat.xor_assoc, Nat.xor_comm _ g, ← Nat.xor_assoc (1 <<< n), Nat.xor_comm (1 <<< n) g]
              simp only [Nat.xor_assoc]
            have h7 := bit_off _ d32 n hn5 hnd
            have h8 := bit_off _ (tog_lt d32 hn5) y hy5 (by rw [tog_ne hny]; exact h4)
            have h9 := hd (p ^^^ (1 <<< n) ^^^ (1 <<< y), g) ⟨hin, fun c hc => by have := hpm c hc; show bits ((p ^^^ (1 <<< n) ^^^ (1 <<< y)) &&& N) ≤ _; omega, by show (p ^^^ (1 <<< n) ^^^ (1 <<< y)).testBit x = true; rw [tog_ne hyx, tog_ne hnx]; exact hpx, hg, hgm⟩
            simp only at h9
            rw [e1] at h9
            omega
def cnt (p : Nat) (M : List Nat) : Nat := (M.filter fun m => p.testBit m).length
theorem cnt_cons (p m : Nat) (M : List Nat) : cnt p (m :: M) = (if p.testBit m then 1 else 0) + cnt p M := by
  unfold cnt
  rw [List.filter_cons]
  by_cases h : p.testBit m = true
  · rw [if_pos h, if_pos h, List.length_cons]; omega
  · simp only [if_neg h]; omega
theorem cnt_tog {p y : Nat} : ∀ {M : List Nat}, M.Nodup → cnt (p ^^^ (1 <<< y)) M ≤ cnt p M + 1
  | [], _ => by show (0 : Nat) ≤ 0 + 1; decide
  | m :: M, h => by
    rw [List.nodup_cons] at h
    rw [cnt_cons, cnt_cons]
    by_cases hy : y = m
    · subst hy
      have : cnt (p ^^^ (1 <<< y)) M = cnt p M := by
        unfold cnt
        congr 1
        refine List.filter_congr fun z hz => ?_
        rw [tog_ne (p := p) (y := y) (j := z) (fun e => h.1 (by rw [e]; exact hz))]
      rw [this]
      split <;> split <;> omega
    · have := cnt_tog (p := p) (y := y) h.2
      rw [tog_ne hy]
      omega
theorem cnt_off {p m : Nat} {M : List Nat} (h : m ∉ M) : cnt (p ^^^ (1 <<< m)) M = cnt p M := by
  unfold cnt
  congr 1
  refine List.filter_congr fun z hz => ?_
  rw [tog_ne (p := p) (y := m) (j := z) (fun e => h (by rw [e]; exact hz))]
/-- so one that meets M least is without x -/
theorem least_without {N x : Nat} (hN : N < 32) (hx : N.testBit x = false) : ∀ (M : List Nat), M.Nodup → (∀ m ∈ M, N.testBit m = false ∧ m ≠ x) → ∀ S : Nat → Prop, EXB S → (∃ p, S p) → LeastNo S N x → ∃ p, S p ∧ p.testBit x = false ∧ ∀ c, S c → cnt p M ≤ cnt c M
  | [], _, _, S, h, he, hl => by
    obtain ⟨g, hg, hm⟩ := least (fun g => bits (g &&& N)) S he
    exact ⟨g, hg, hl g hg hm, fun c _ => Nat.le_refl _⟩
  | m :: M, hnd, hM, S, h, he, hl => by
    rw [List.nodup_cons] at hnd
    have hm := hM m List.mem_cons_self
    have hM2 : ∀ z ∈ M, N.testBit z = false ∧ z ≠ x := fun z hz => hM z (List.mem_cons_of_mem _ hz)
    by_cases c : ∃ p, S p ∧ p.testBit m = false
    · obtain ⟨p0, hp0⟩ := c
      obtain ⟨p, hp, hpx, hpm⟩ := least_without hN hx M hnd.2 hM2 _ (h.filter m) ⟨p0, hp0⟩ (leastNo_filter h hN hx hm.1 hm.2 hl)
      refine ⟨p, hp.1, hpx, fun f hf => ?_⟩
      rw [cnt_cons, cnt_cons, hp.2]
      cases hfm : f.testBit m with
      | false => have := hpm f ⟨hf, hfm⟩; simpa using this
      | true =>
        have hd : (f ^^^ p0).testBit m = true := by rw [Nat.testBit_xor, hfm, hp0.2]; rfl
        rcases h.ex f p0 hf hp0.1 m hd with h1 | ⟨y, h1, h2, h3⟩
        · have := hpm _ ⟨h1, by rw [tog_eq, hfm]; rfl⟩
          rw [cnt_off hnd.1] at this
          simp; omega
        · have h4 := hpm _ ⟨h3, by rw [tog_ne h1, tog_eq, hfm]; rfl⟩
          have h5 := cnt_tog (p := f ^^^ (1 <<< m)) (y := y) hnd.2
          rw [cnt_off hnd.1] at h5
          simp; omega
    · obtain ⟨p, hp, hpx, hpm⟩ := least_without hN hx M hnd.2 hM2 S h he hl
      refine ⟨p, hp, hpx, fun f hf => ?_⟩
      have all : ∀ q, S q → q.testBit m = true := fun q hq => by
        cases e : q.testBit m with
        | true => rfl
        | false => exact absurd ⟨q, hq, e⟩ c
      rw [cnt_cons, cnt_cons, all p hp, all f hf]
      have := hpm f hf
      omega
end W7
end
section
namespace W7
theorem orF_bset (ns : List Nat) : orF ns = bset ns := rfl
theorem low_tb {size : Nat} {fm : List Nat} {o x : Nat} : (lowF size fm o).testBit x = (decide (x < size) && decide ((o ^^^ (1 <<< x)) ∈ fm)) := by
  unfold lowF
  rw [orF_bset, bset_ok]
  by_cases h1 : x < size <;> by_cases h2 : (o ^^^ (1 <<< x)) ∈ fm <;> simp [h1, h2]
theorem tog_size {o y size : Nat} (h1 : o < 1 <<< size) (h2 : o ^^^ (1 <<< y) < 1 <<< size) : y < size := by
  have h3 := xor_lt_sh h1 h2
  rw [← Nat.xor_assoc, Nat.xor_self, Nat.zero_xor] at h3
  refine Nat.lt_of_not_le fun h => ?_
  rw [Nat.one_shiftLeft, Nat.one_shiftLeft] at h3
  exact absurd h3 (Nat.not_lt_of_le (Nat.pow_le_pow_right (by decide) h))
theorem rows_ok {size : Nat} {fm : List Nat} (hb : ∀ m ∈ fm, m < 1 <<< size) (h : EX (· ∈ fm)) : RowsOk size fm := by
  intro o ho hl ho2 m hm he
  obtain ⟨x, hx⟩ := Nat.exists_testBit_of_ne_zero hl
  have hx1 := hx
  rw [low_tb, Bool.and_eq_true, decide_eq_true_eq, decide_eq_true_eq] at hx1
  have zero : ∀ j, (lowF size fm o).testBit j = true → (m ^^^ o).testBit j = false := fun j hj => by
    have : ((m ^^^ o) &&& lowF size fm o).testBit j = false := by rw [he]; simp
    rw [Nat.testBit_and, hj, Bool.and_true] at this
    exact this
  have hx2 := zero x hx
  have hfx : ((o ^^^ (1 <<< x)) ^^^ m).testBit x = true := by
    rw [Nat.testBit_xor, tog_eq]
    rw [Nat.testBit_xor] at hx2
    cases h1 : o.testBit x <;> cases h2 : m.testBit x <;> rw [h1, h2] at hx2 <;> first | rfl | cases hx2
  have back : (o ^^^ (1 <<< x)) ^^^ (1 <<< x) = o := by rw [Nat.xor_assoc, Nat.xor_self, Nat.xor_zero]
  rcases h _ m hx1.2 hm x hfx with h1 | ⟨y, h1, h2, h3⟩
  · rw [back] at h1
    exact ho2 h1
  · rw [back] at h3
    have hy : y < size := tog_size ho (hb _ h3)
    have h4 := zero y (by rw [low_tb, decide_eq_true hy, decide_eq_true h3]; rfl)
    rw [Nat.testBit_xor, tog_ne (fun e => h1 e.symm)] at h2
    rw [Nat.testBit_xor] at h4
    cases h5 : o.testBit y <;> cases h6 : m.testBit y <;> rw [h5, h6] at h2 h4 <;> first | exact absurd h2 (by decide) | exact absurd h4 (by decide)
/-! ### webs -/
theorem pairRow_congr {ls ls' : List (Nat × Nat)} (h : ∀ l, l ∈ ls ↔ l ∈ ls') : ∀ k, pairRow ls k = pairRow ls' k
  | 0 => rfl
  | k + 1 => by
    rw [pairRow, pairRow, pairRow_congr h k]
    congr 2
    refine Bool.eq_iff_iff.mpr (Iff.trans List.any_eq_true (Iff.trans ?_ List.any_eq_true.symm))
    constructor
    · rintro ⟨l, h1, h2⟩; exact ⟨l, (h l).mp h1, h2⟩
    · rintro ⟨l, h1, h2⟩; exact ⟨l, (h l).mpr h1, h2⟩
theorem mem_code {c : Nat} {l : Nat × Nat} : ∀ {L : List (Nat × Nat)} {k : Nat}, l ∈ codeL c L k ↔ ∃ i, L[i]? = some l ∧ c.testBit (k + i) = true
  | [], k => by simp [codeL]
  | a :: L, k => by
    rw [codeL, hasB_ok]
    have ih := mem_code (c := c) (l := l) (L := L) (k := k + 1)
    constructor
    · intro h
      by_cases hk : c.testBit k = true
      · rw [if_pos hk] at h
        obtain rfl | h := List.mem_cons.mp h
        · exact ⟨0, rfl, hk⟩
        · obtain ⟨i, h1, h2⟩ := ih.mp h
          exact ⟨i + 1, h1, by rw [← h2]; congr 1; omega⟩
      · rw [if_neg hk] at h
        obtain ⟨i, h1, h2⟩ := ih.mp h
        exact ⟨i + 1, h1, by rw [← h2]; congr 1; omega⟩
    · rintro ⟨i, h1, h2⟩
      have tail : ∀ i, L[i]? = some l → c.testBit (k + (i + 1)) = true → l ∈ codeL c L (k + 1) := fun i a b => ih.mpr ⟨i, a, by rw [← b]; congr 1; omega⟩
      by_cases hk : c.testBit k = true
      · rw [if_pos hk]
        cases i with
        | zero => cases h1; exact List.mem_cons_self
        | succ i => exact List.mem_cons_of_mem _ (tail i h1 h2)
      · rw [if_neg hk]
        cases i with
        | zero => exact absurd h2 hk
        | succ i => exact tail i h1 h2
def wide (size : Nat) : Nat := size * (size - 1) / 2
def ixL (l : Nat × Nat) : Nat := l.2 * (l.2 - 1) / 2 + l.1
theorem ix_ok : ∀ y : Nat, y < 5 → ∀ x : Nat, x < y → allL[ixL (x, y)]? = some (x, y) := by decide +kernel
theorem ix_lt : ∀ size : Nat, size < 6 → ∀ y : Nat, y < size → ∀ x : Nat, x < y → ixL (x, y) < wide size := by decide +kernel
theorem all_ix : ∀ i : Nat, i < 10 → ixL (allL.getD i (0, 0)) = i := by decide +kernel
theorem code_of {size : Nat} {ls : List (Nat × Nat)} (h5 : size ≤ 5) (ok : LinksOk size ls) : ∃ c, c < 2 ^ wide size ∧ ∀ l, l ∈ ls ↔ l ∈ codeL c allL 0 := by
  refine ⟨bset (ls.map ixL), ?_, fun l => ?_⟩
  · refine Nat.lt_pow_two_of_testBit _ fun i hi => ?_
    rw [bset_ok]
    refine decide_eq_false fun h => ?_
    obtain ⟨l, hl, rfl⟩ := List.mem_map.mp h
    obtain ⟨a, b⟩ := ok.1 l hl
    have h6 : ixL l < wide size := ix_lt size (by omega) l.2 b l.1 a
    omega
  · rw [mem_code]
    constructor
    · intro h
      obtain ⟨a, b⟩ := ok.1 l h
      refine ⟨ixL l, ix_ok l.2 (by omega) l.1 a, ?_⟩
      rw [Nat.zero_add, bset_ok]
      exact decide_eq_true (List.mem_map.mpr ⟨l, h, rfl⟩)
    · rintro ⟨i, h1, h2⟩
      rw [Nat.zero_add, bset_ok] at h2
      obtain ⟨l2, h3, h4⟩ := List.mem_map.mp (of_decide_eq_true h2)
      obtain ⟨a, b⟩ := ok.1 l2 h3
      have h5 := ix_ok l2.2 (by omega) l2.1 a
      have h6 : allL[ixL l2]? = some l2 := h5
      rw [h4, h1] at h6
      cases h6
      exact h3
theorem joinF_mem {size : Nat} {ms os : List Nat} {n : Nat} : n ∈ joinF size ms os ↔ n < 1 <<< size ∧ ∃ m ∈ ms, ∃ o ∈ os, n = m ^^^ o := by
  unfold joinF listF
  rw [List.mem_filter, List.mem_range, List.length_map, List.length_range]
  constructor
  · rintro ⟨h1, h2⟩
    rw [List.getD, List.getElem?_map, List.getElem?_range h1] at h2
    exact ⟨h1, of_decide_eq_true h2⟩
  · rintro ⟨h1, h2⟩
    refine ⟨h1, ?_⟩
    rw [List.getD, List.getElem?_map, List.getElem?_range h1]
    exact decide_eq_true h2
theorem chkW_EX {size c : Nat} (h5 : size ≤ 5) (h : chkW size c = true) : EX (· ∈ pairF size (codeL c allL 0)) ∧ EX (fun n => n < 1 <<< size ∧ ∃ m ∈ pairF size (codeL c allL 0), ∃ o ∈ os1 size, n = m ^^^ o) := by
  unfold chkW at h
  obtain ⟨h1, h2⟩ := (Bool.and_eq_true _ _).mp h
  refine ⟨chk_EX2 h5 good_pair.2 (bset_ok _) h1, ?_⟩
  have mem2 : ∀ n, n ∈ (List.range (1 <<< size)).filter (fun n => hasB (bset ((pairF size (codeL c allL 0)).flatMap fun m => (os1 size).map fun o => m ^^^ o)) n) ↔ n < 1 <<< size ∧ ∃ m ∈ pairF size (codeL c allL 0), ∃ o ∈ os1 size, n = m ^^^ o := fun n => by
    rw [List.mem_filter, List.mem_range, hasB_ok, bset_ok, decide_eq_true_eq, List.mem_flatMap]
    constructor
    · rintro ⟨a, m, hm, b⟩
      obtain ⟨o, ho, e⟩ := List.mem_map.mp b
      exact ⟨a, m, hm, o, ho, e.symm⟩
    · rintro ⟨a, m, hm, o, ho, e⟩
      exact ⟨a, m, hm, List.mem_map.mpr ⟨o, ho, e.symm⟩⟩
  refine EX.iff (chk_EX2 h5 (size := size) (F := bset ((pairF size (codeL c allL 0)).flatMap fun m => (os1 size).map fun o => m ^^^ o)) (fun m hm => ((mem2 m).mp hm).1) (fun n => ?_) h2) mem2
  rw [bset_ok]
  congr 1
  rw [eq_iff_iff, mem2, List.mem_flatMap]
  constructor
  · rintro ⟨m, hm, b⟩
    obtain ⟨o, ho, e⟩ := List.mem_map.mp b
    refine ⟨?_, m, hm, o, ho, e.symm⟩
    rw [← e]
    exact xor_lt_sh (good_pair.2 m hm) (good_sized.2 o ho)
  · rintro ⟨_, m, hm, o, ho, e⟩
    exact ⟨m, hm, List.mem_map.mpr ⟨o, ho, e.symm⟩⟩
theorem pair_zero {size : Nat} {ls : List (Nat × Nat)} : 0 ∈ pairF size ls := by
  unfold pairF listF
  rw [List.mem_filter, List.mem_range, pairRow_len]
  refine ⟨Nat.succ_pos _, ?_⟩
  have : ∀ k, (pairRow ls k).getD 0 false = true := by
    intro k
    induction k with
    | zero => rfl
    | succ k ih =>
      rw [pairRow, List.getD, List.getElem?_append_left (by rw [pairRow_len]; omega)]
      exact ih
  exact this _
theorem pair_gated (chk : ∀ size, 1 ≤ size → size ≤ 5 → ∀ c, c < 2 ^ wide size → chkW size c = true) : PairGated := by
  intro size ls lot M h1 h5 ok hlot m1 m2
  obtain ⟨c, hc, hcl⟩ := code_of h5 ok
  obtain ⟨x1, x2⟩ := chkW_EX h5 (chk size h1 h5 c hc)
  have ep : pairF size ls = pairF size (codeL c allL 0) := by unfold pairF; rw [pairRow_congr hcl]
  rw [← ep] at x1 x2
  have back : ∀ n : Nat, (n ^^^ lot) ^^^ lot = n := fun n => by rw [Nat.xor_assoc, Nat.xor_self, Nat.xor_zero]
  have memM : ∀ n, n ∈ M ↔ (n ^^^ lot) ∈ pairF size ls := fun n => by
    rw [m1.mem_iff, List.mem_map]
    constructor
    · rintro ⟨a, ha, rfl⟩; rw [back]; exact ha
    · intro h; exact ⟨_, h, back n⟩
  have gM := good_turn good_pair hlot m1 m2
  have hzero : lot ∈ M := (memM lot).mpr (by rw [Nat.xor_self]; exact pair_zero)
  refine ⟨⟨gated_of_EX gM.2 ((x1.turn lot).iff fun n => (memM n).symm), List.ne_nil_of_mem hzero⟩, gated_of_EX good_join.2 ((x2.turn lot).iff fun n => ?_), ?_⟩
  · rw [joinF_mem]
    constructor
    · rintro ⟨a, m, hm, o, ho, e⟩
      have e2 : n = (m ^^^ lot) ^^^ o := by rw [← back n, e, Nat.xor_assoc, Nat.xor_comm o lot, ← Nat.xor_assoc]
      refine ⟨?_, m ^^^ lot, (memM _).mpr (by rw [back]; exact hm), o, ho, e2⟩
      rw [e2]
      exact xor_lt_sh (xor_lt_sh (good_pair.2 m hm) hlot) (good_sized.2 o ho)
    · rintro ⟨a, m, hm, o, ho, e⟩
      refine ⟨xor_lt_sh a hlot, m ^^^ lot, (memM m).mp hm, o, ho, ?_⟩
      rw [e, Nat.xor_assoc, Nat.xor_comm o lot, ← Nat.xor_assoc]
  · have h0 : (0 : Nat) ∈ sizedF size 0 1 := by
      unfold sizedF
      rw [List.mem_filter, List.mem_range]
      refine ⟨by rw [Nat.one_shiftLeft]; exact Nat.two_pow_pos _, by decide⟩
    exact List.ne_nil_of_mem (joinF_mem.mpr ⟨hlot, lot, hzero, 0, h0, by rw [Nat.xor_zero]⟩)
end W7
end
section
namespace W7
/-! ### the lots nearest and farthest, turned -/
structure Gat (size : Nat) (fm : List Nat) (t : Nat) : Prop where
  ok : FamOk size fm
  ex : EX (· ∈ fm)
  t : t < 1 <<< size
def rowsF (fm : List Nat) (t : Nat) : List Nat := (farF fm t).map fun m => m ^^^ t
theorem back (n t : Nat) : (n ^^^ t) ^^^ t = n := by rw [Nat.xor_assoc, Nat.xor_self, Nat.xor_zero]
theorem Gat.exb {size : Nat} {fm : List Nat} {t : Nat} (G : Gat size fm t) : EXB (fun n => (n ^^^ t) ∈ fm) := EXB.turn ⟨G.ex, G.ok.lt32⟩ (sh32 G.ok.s5 G.t)
theorem Gat.lt {size : Nat} {fm : List Nat} {t n : Nat} (G : Gat size fm t) (h : (n ^^^ t) ∈ fm) : n < 1 <<< size := by
  have := xor_lt_sh (G.ok.lt _ h) G.t
  rwa [back] at this
theorem bases_mem {fm : List Nat} {t b : Nat} : b ∈ basesF fm t ↔ (b ^^^ t) ∈ fm ∧ ∀ c, (c ^^^ t) ∈ fm → bits b ≤ bits c := by
  unfold basesF nearF
  constructor
  · intro h
    obtain ⟨m, hm, rfl⟩ := List.mem_map.mp h
    obtain ⟨h1, h2⟩ := List.mem_filter.mp hm
    have h2 := of_decide_eq_true h2
    refine ⟨by rw [back]; exact h1, fun c hc => ?_⟩
    rw [h2]
    have h3 := (mn_ok (ns := fm.map fun n => bits (n ^^^ t)) (by simp; exact List.ne_nil_of_mem h1)).2 _ (List.mem_map.mpr ⟨_, hc, rfl⟩)
    rwa [back] at h3
  · rintro ⟨h1, h2⟩
    refine List.mem_map.mpr ⟨b ^^^ t, List.mem_filter.mpr ⟨h1, decide_eq_true ?_⟩, back b t⟩
    have hne : fm.map (fun n => bits (n ^^^ t)) ≠ [] := by simp; exact List.ne_nil_of_mem h1
    obtain ⟨h3, h4⟩ := mn_ok hne
    obtain ⟨m, hm, e⟩ := List.mem_map.mp h3
    have h5 := h4 _ (List.mem_map.mpr ⟨_, h1, rfl⟩)
    have h6 := h2 (m ^^^ t) (by rw [back]; exact hm)
    rw [back] at h5 ⊢
    omega
theorem rows_mem {fm : List Nat} {t b : Nat} : b ∈ rowsF fm t ↔ (b ^^^ t) ∈ fm ∧ ∀ c, (c ^^^ t) ∈ fm → bits c ≤ bits b := by
  unfold rowsF farF
  constructor
  · intro h
    obtain ⟨m, hm, rfl⟩ := List.mem_map.mp h
    obtain ⟨h1, h2⟩ := List.mem_filter.mp hm
    have h2 := of_decide_eq_true h2
    refine ⟨by rw [back]; exact h1, fun c hc => ?_⟩
    rw [h2]
    have h3 := (mx_ok (ns := fm.map fun n => bits (n ^^^ t)) (by simp; exact List.ne_nil_of_mem h1)).2 _ (List.mem_map.mpr ⟨_, hc, rfl⟩)
    rwa [back] at h3
  · rintro ⟨h1, h2⟩
    refine List.mem_map.mpr ⟨b ^^^ t, List.mem_filter.mpr ⟨h1, decide_eq_true ?_⟩, back b t⟩
    have hne : fm.map (fun n => bits (n ^^^ t)) ≠ [] := by simp; exact List.ne_nil_of_mem h1
    obtain ⟨h3, h4⟩ := mx_ok hne
    obtain ⟨m, hm, e⟩ := List.mem_map.mp h3
    have h5 := h4 _ (List.mem_map.mpr ⟨_, h1, rfl⟩)
    have h6 := h2 (m ^^^ t) (by rw [back]; exact hm)
    rw [back] at h5 ⊢
    omega
theorem rows_ne {fm : List Nat} {t : Nat} (h : fm ≠ []) : rowsF fm t ≠ [] := by
  have h2 : fm.map (fun m => bits (m ^^^ t)) ≠ [] := by simpa using h
  obtain ⟨m, hm, e⟩ := List.mem_map.mp (mx_ok h2).1
  exact List.ne_nil_of_mem (List.mem_map.mpr ⟨m, List.mem_filter.mpr ⟨hm, decide_eq_true e⟩, rfl⟩)
theorem compl_bits : ∀ size : Nat, size < 6 → ∀ a : Nat, a < 1 <<< size → bits (a ^^^ ((1 <<< size) - 1)) + bits a = size := by decide +kernel
theorem whole_lt (size : Nat) : (1 <<< size) - 1 < 1 <<< size := by
  have : 1 ≤ 1 <<< size := by rw [Nat.one_shiftLeft]; exact Nat.one_le_two_pow
  omega
theorem sub_tb {b f : Nat} (h : b &&& f = b) {x : Nat} (hx : b.testBit x = true) : f.testBit x = true := by
  rw [← h, Nat.testBit_and, Bool.and_eq_true] at hx
  exact hx.2
theorem whole_tb {size x : Nat} (h : x < size) : ((1 <<< size) - 1).testBit x = true := by
  rw [Nat.one_shiftLeft, Nat.testBit_two_pow_sub_one]; simp [h]
variable {size : Nat} {fm : List Nat} {t : Nat}
/-- each lot is between a nearest and a farthest one -/
theorem Gat.holds (G : Gat size fm t) {f : Nat} (hf : (f ^^^ t) ∈ fm) : ∃ b ∈ basesF fm t, b &&& f = b := by
  obtain ⟨b, h1, h2, h3⟩ := holds_least G.exb hf
  exact ⟨b, bases_mem.mpr ⟨h1, h2⟩, h3⟩
theorem Gat.held (G : Gat size fm t) {f : Nat} (hf : (f ^^^ t) ∈ fm) : ∃ r ∈ rowsF fm t, f &&& r = f := by
  have hz := G.ok.s5
  have hw := whole_lt size
  have G2 := EXB.turn G.exb (t := (1 <<< size) - 1) (sh32 hz hw)
  obtain ⟨b, h1, h2, h3⟩ := holds_least G2 (f := f ^^^ ((1 <<< size) - 1)) (by show ((f ^^^ _) ^^^ _) ^^^ t ∈ fm; rw [back]; exact hf)
  refine ⟨b ^^^ ((1 <<< size) - 1), rows_mem.mpr ⟨h1, fun c hc => ?_⟩, ?_⟩
  · have h4 := h2 (c ^^^ ((1 <<< size) - 1)) (by show ((c ^^^ _) ^^^ _) ^^^ t ∈ fm; rw [back]; exact hc)
    have h5 := compl_bits size (by omega) c (G.lt hc)
    have h6 := G.lt h1
    have h7 := compl_bits size (by omega) _ h6
    rw [back] at h7
    omega
  · apply Nat.eq_of_testBit_eq
    intro x
    rw [Nat.testBit_and, Nat.testBit_xor]
    cases hx : f.testBit x with
    | false => rfl
    | true =>
      have hxs : x < size := tb_lt (by rw [← Nat.one_shiftLeft]; exact G.lt hf) hx
      rw [whole_tb hxs]
      cases hb : b.testBit x with
      | false => rfl
      | true =>
        have := sub_tb h3 hb
        rw [Nat.testBit_xor, hx, whole_tb hxs] at this
        cases this
/-! ### one thing more -/
def restL (N x : Nat) : List Nat := (List.range 5).filter fun y => !N.testBit y && !decide (y = x)
theorem bits_split : ∀ b : Nat, b < 32 → ∀ N : Nat, N < 32 → ∀ x : Nat, x < 5 → N.testBit x = false → bits b = bits (b &&& N) + (if b.testBit x then 1 else 0) + cnt b (restL N x) := by decide +kernel
theorem bits_more : ∀ b : Nat, b < 32 → ∀ N : Nat, N < 32 → ∀ x : Nat, x < 5 → N.testBit x = false → bits (b &&& (N ||| (1 <<< x))) = bits (b &&& N) + (if b.testBit x then 1 else 0) := by decide +kernel
theorem bits_rest : ∀ r : Nat, r < 32 → ∀ N : Nat, N < 32 → bits ((r ^^^ N) &&& N) + bits (r &&& N) = bits N := by decide +kernel
theorem bits_mono : ∀ a : Nat, a < 32 → ∀ b : Nat, b < 32 → a &&& b = a → bits a ≤ bits b := by decide +kernel
theorem cnt_mono {b f : Nat} (h : b &&& f = b) : ∀ M : List Nat, cnt b M ≤ cnt f M
  | [] => Nat.le_refl _
  | m :: M => by
    rw [cnt_cons, cnt_cons]
    have := cnt_mono h M
    cases hb : b.testBit m with
    | false => rw [if_neg Bool.false_ne_true]; omega
    | true =>
      have hf := sub_tb h hb
      rw [if_pos hf, if_pos rfl]; omega
theorem cnt_xor {p N : Nat} : ∀ {M : List Nat}, (∀ m ∈ M, N.testBit m = false) → cnt (p ^^^ N) M = cnt p M
  | [], _ => rfl
  | m :: M, h => by
    rw [cnt_cons, cnt_cons, cnt_xor (fun z hz => h z (List.mem_cons_of_mem _ hz)), Nat.testBit_xor, h m List.mem_cons_self, Bool.xor_false]
theorem rest_ok {N x : Nat} : (restL N x).Nodup ∧ ∀ m ∈ restL N x, N.testBit m = false ∧ m ≠ x := by
  refine ⟨List.Pairwise.filter _ (List.pairwise_lt_range.imp fun h => by omega), fun m hm => ?_⟩
  have := (List.mem_filter.mp hm).2
  rw [Bool.and_eq_true, Bool.not_eq_true', Bool.not_eq_true', decide_eq_false_iff_not] at this
  exact this
def fkOf (fm : List Nat) (t u : Nat) : Nat := mx ((rowsF fm t).map fun r => bits (r &&& u))
theorem rk_ok (h : fm ≠ []) (u : Nat) : (∃ b ∈ basesF fm t, bits (b &&& u) = rkOf fm t u) ∧ ∀ b ∈ basesF fm t, bits (b &&& u) ≤ rkOf fm t u := by
  have hne : (basesF fm t).map (fun b => bits (b &&& u)) ≠ [] := by simpa using bases_ne h
  obtain ⟨h1, h2⟩ := mx_ok hne
  obtain ⟨b, hb, e⟩ := List.mem_map.mp h1
  exact ⟨⟨b, hb, e⟩, fun b hb => h2 _ (List.mem_map.mpr ⟨b, hb, rfl⟩)⟩
theorem fk_ok (h : fm ≠ []) (u : Nat) : (∃ b ∈ rowsF fm t, bits (b &&& u) = fkOf fm t u) ∧ ∀ b ∈ rowsF fm t, bits (b &&& u) ≤ fkOf fm t u := by
  have hne : (rowsF fm t).map (fun b => bits (b &&& u)) ≠ [] := by simpa using rows_ne h
  obtain ⟨h1, h2⟩ := mx_ok hne
  obtain ⟨b, hb, e⟩ := List.mem_map.mp h1
  exact ⟨⟨b, hb, e⟩, fun b hb => h2 _ (List.mem_map.mpr ⟨b, hb, rfl⟩)⟩
theorem Gat.step (G : Gat size fm t) {N x : Nat} (hN : N < 1 <<< size) (hx : x < size) :
    rkOf fm t N ≤ rkOf fm t (N ||| (1 <<< x)) ∧ rkOf fm t (N ||| (1 <<< x)) ≤ rkOf fm t N + 1 ∧ rkOf fm t (N ||| (1 <<< x)) + fkOf fm t N ≤ rkOf fm t N + fkOf fm t (N ||| (1 <<< x)) := by
  have hz := G.ok.s5
  have hN32 := sh32 hz hN
  have hx5 : x < 5 := by omega
  obtain ⟨⟨b, hb, eb⟩, hb2⟩ := rk_ok (t := t) G.ok.ne N
  obtain ⟨⟨c, hc, ec⟩, hc2⟩ := rk_ok (t := t) G.ok.ne (N ||| (1 <<< x))
  obtain ⟨⟨r, hr, er⟩, hr2⟩ := fk_ok (t := t) G.ok.ne N
  obtain ⟨⟨q, hq, eq⟩, hq2⟩ := fk_ok (t := t) G.ok.ne (N ||| (1 <<< x))
  have lt : ∀ {b}, (b ^^^ t) ∈ fm → b < 32 := fun h => sh32 hz (G.lt h)
  have b32 := lt (bases_mem.mp hb).1
  have c32 := lt (bases_mem.mp hc).1
  have r32 := lt (rows_mem.mp hr).1
  cases hNx : N.testBit x with
  | true =>
    have e : N ||| (1 <<< x) = N := by
      apply Nat.eq_of_testBit_eq
      intro j
      rw [Nat.testBit_or, tb_sh]
      by_cases h : x = j
      · subst h; rw [hNx]; rfl
      · simp [h]
    rw [e]; omega
  | false =>
    have m1 := bits_more b b32 N hN32 x hx5 hNx
    have m2 := bits_more c c32 N hN32 x hx5 hNx
    have m3 := bits_more r r32 N hN32 x hx5 hNx
    have k1 := hc2 b hb
    have k2 := hb2 c hc
    have k3 := hq2 r hr
    have i1 : (if b.testBit x then 1 else 0) ≤ 1 := by split <;> omega
    have i2 : (if c.testBit x then 1 else 0) ≤ 1 := by split <;> omega
    refine ⟨by omega, by omega, ?_⟩
    refine Nat.le_of_not_lt fun hlt => ?_
    -- then x raises what nearest lots have, not what farthest ones have
    have up : rkOf fm t (N ||| (1 <<< x)) = rkOf fm t N + 1 := by omega
    have same : fkOf fm t (N ||| (1 <<< x)) = fkOf fm t N := by omega
    have D := G.exb
    have DN := EXB.turn D hN32
    have no : LeastNo (fun n => ((n ^^^ N) ^^^ t) ∈ fm) N x := by
      intro g hg hmin
      cases hgx : g.testBit x with
      | false => rfl
      | true =>
        exfalso
        obtain ⟨r1, h1, h2⟩ := G.held hg
        have g32 := lt hg
        have r132 := lt (rows_mem.mp h1).1
        have e1 := bits_rest (g ^^^ N) g32 N hN32
        rw [back] at e1
        have e2 := hmin (r ^^^ N) (by show ((r ^^^ N) ^^^ N) ^^^ t ∈ fm; rw [back]; exact (rows_mem.mp hr).1)
        have e3 := bits_rest r r32 N hN32
        have gx : (g ^^^ N).testBit x = true := by rw [Nat.testBit_xor, hgx, hNx]; rfl
        have e4 := bits_more (g ^^^ N) g32 N hN32 x hx5 hNx
        rw [gx, if_pos rfl] at e4
        have e5 : bits ((g ^^^ N) &&& (N ||| (1 <<< x))) ≤ bits (r1 &&& (N ||| (1 <<< x))) := by
          refine bits_mono _ (and32 g32) _ (and32 r132) ?_
          apply Nat.eq_of_testBit_eq
          intro j
          simp only [Nat.testBit_and]
          cases hj : (g ^^^ N).testBit j with
          | false => simp
          | true => rw [sub_tb h2 hj]; simp
        have e6 := hq2 r1 h1
        omega
    obtain ⟨p, hp, hpx, hpm⟩ := least_without hN32 hNx (restL N x) rest_ok.1 rest_ok.2 _ DN ⟨c ^^^ N, by show ((c ^^^ N) ^^^ N) ^^^ t ∈ fm; rw [back]; exact (bases_mem.mp hc).1⟩ no
    have xr : ∀ z, cnt (z ^^^ N) (restL N x) = cnt z (restL N x) := fun z => cnt_xor fun m hm => (rest_ok.2 m hm).1
    obtain ⟨b1, h1, h2⟩ := G.holds hp
    have b132 := lt (bases_mem.mp h1).1
    have b1x : b1.testBit x = false := by
      cases e : b1.testBit x with
      | false => rfl
      | true =>
        have := sub_tb h2 e
        rw [Nat.testBit_xor, hpx, hNx] at this
        cases this
    have s1 := bits_split b1 b132 N hN32 x hx5 hNx
    have s2 := bits_split c c32 N hN32 x hx5 hNx
    rw [b1x] at s1
    have q1 := cnt_mono h2 (restL N x)
    rw [xr] at q1
    have q2 := hpm (c ^^^ N) (by show ((c ^^^ N) ^^^ N) ^^^ t ∈ fm; rw [back]; exact (bases_mem.mp hc).1)
    rw [xr] at q2
    have q3 := (bases_mem.mp h1).2 c (bases_mem.mp hc).1
    have q4 := (bases_mem.mp hc).2 b1 (bases_mem.mp h1).1
    have q5 := hb2 b1 h1
    simp at s1
    omega
end W7
end
section
namespace W7
/-! ### depths -/
theorem rk_le {fm : List Nat} {t g : Nat} (h : g ∈ fm) : rkF fm t ≤ bits (g ^^^ t) := (mn_ok (ns := fm.map fun m => bits (m ^^^ t)) (by simp; exact List.ne_nil_of_mem h)).2 _ (List.mem_map.mpr ⟨g, h, rfl⟩)
theorem rk_at {fm : List Nat} (t : Nat) (h : fm ≠ []) : ∃ g ∈ fm, bits (g ^^^ t) = rkF fm t := by
  have h2 : fm.map (fun m => bits (m ^^^ t)) ≠ [] := by simpa using h
  obtain ⟨m, hm, e⟩ := List.mem_map.mp (mn_ok h2).1
  exact ⟨m, hm, e⟩
theorem bits_tog : ∀ a : Nat, a < 32 → ∀ x : Nat, x < 5 → bits (a ^^^ (1 <<< x)) ≤ bits a + 1 ∧ bits a ≤ bits (a ^^^ (1 <<< x)) + 1 := by decide +kernel
theorem bits_size : ∀ size : Nat, size < 6 → ∀ a : Nat, a < 1 <<< size → bits a ≤ size := by decide +kernel
theorem sh_lt {size x : Nat} (h : x < size) : 1 <<< x < 1 <<< size := by
  rw [Nat.one_shiftLeft, Nat.one_shiftLeft]
  exact Nat.pow_lt_pow_right (by decide) h
theorem tog_sh {size t x : Nat} (ht : t < 1 <<< size) (hx : x < size) : t ^^^ (1 <<< x) < 1 <<< size := xor_lt_sh ht (sh_lt hx)
theorem x32 {size a b : Nat} (h5 : size ≤ 5) (ha : a < 1 <<< size) (hb : b < 1 <<< size) : a ^^^ b < 32 := sh32 h5 (xor_lt_sh ha hb)
theorem rk_lip {size : Nat} {fm : List Nat} (ok : FamOk size fm) {t x : Nat} (ht : t < 1 <<< size) (hx : x < size) : rkF fm (t ^^^ (1 <<< x)) ≤ rkF fm t + 1 ∧ rkF fm t ≤ rkF fm (t ^^^ (1 <<< x)) + 1 := by
  have hz := ok.s5
  obtain ⟨g, hg, eg⟩ := rk_at t ok.ne
  obtain ⟨f, hf, ef⟩ := rk_at (t ^^^ (1 <<< x)) ok.ne
  have h1 := rk_le (t := t ^^^ (1 <<< x)) hg
  have h2 := rk_le (t := t) hf
  have a1 := bits_tog _ (x32 hz (ok.lt g hg) ht) x (by omega)
  have a2 := bits_tog _ (x32 hz (ok.lt f hf) ht) x (by omega)
  rw [← Nat.xor_assoc] at h1 ef
  omega
theorem rk_size {size : Nat} {fm : List Nat} (ok : FamOk size fm) {t : Nat} (ht : t < 1 <<< size) : rkF fm t ≤ size := by
  obtain ⟨g, hg, eg⟩ := rk_at t ok.ne
  have := bits_size size (by have := ok.s5; omega) _ (xor_lt_sh (ok.lt g hg) ht)
  omega
/-- the row of depths, thing by thing -/
def dvF (size : Nat) (fm : List Nat) : Nat → Nat → Nat
  | 0, m => if m ∈ fm then 0 else size
  | k + 1, m => min (dvF size fm k m) (dvF size fm k (m ^^^ (1 <<< k)) + 1)
theorem dv_low {size : Nat} {fm : List Nat} (ok : FamOk size fm) : ∀ k, k ≤ size → ∀ m, m < 1 <<< size → rkF fm m ≤ dvF size fm k m
  | 0, _, m, hm => by
    unfold dvF
    split
    · next h =>
      have := rk_le (t := m) h
      rw [Nat.xor_self] at this
      exact this
    · exact rk_size ok hm
  | k + 1, hk, m, hm => by
    have h1 := dv_low ok k (by omega) m hm
    have h2 := dv_low ok k (by omega) _ (tog_sh hm (by omega : k < size))
    have h3 := (rk_lip ok hm (by omega : k < size)).2
    rw [dvF]
    omega
theorem cut_bit : ∀ k : Nat, k < 5 → ∀ a : Nat, a < 2 ^ (k + 1) → ¬ a < 2 ^ k → a ^^^ (1 <<< k) < 2 ^ k ∧ bits (a ^^^ (1 <<< k)) + 1 = bits a := by decide +kernel
theorem dv_up {size : Nat} {fm : List Nat} (ok : FamOk size fm) : ∀ k, k ≤ size → ∀ m, ∀ g ∈ fm, g ^^^ m < 2 ^ k → dvF size fm k m ≤ bits (g ^^^ m)
  | 0, _, m, g, hg, h => by
    have h0 : g ^^^ m = 0 := by
      have : g ^^^ m < 1 := by simpa using h
      omega
    have e : g = m := by
      have := congrArg (· ^^^ m) h0
      simpa [Nat.xor_assoc] using this
    subst e
    unfold dvF
    rw [if_pos hg]
    exact Nat.zero_le _
  | k + 1, hk, m, g, hg, h => by
    have hz := ok.s5
    rw [dvF]
    by_cases c : g ^^^ m < 2 ^ k
    · have := dv_up ok k (by omega) m g hg c
      omega
    · obtain ⟨c1, c2⟩ := cut_bit k (by omega) _ h c
      have := dv_up ok k (by omega) (m ^^^ (1 <<< k)) g hg (by rw [← Nat.xor_assoc]; exact c1)
      rw [← Nat.xor_assoc] at this
      omega
theorem dv_ok {size : Nat} {fm : List Nat} (ok : FamOk size fm) {m : Nat} (hm : m < 1 <<< size) : dvF size fm size m = rkF fm m := by
  have h1 := dv_low ok size (Nat.le_refl _) m hm
  obtain ⟨g, hg, eg⟩ := rk_at m ok.ne
  have h2 := dv_up ok size (Nat.le_refl _) m g hg (by rw [← Nat.one_shiftLeft]; exact xor_lt_sh (ok.lt g hg) hm)
  omega
/-! ### what lowers -/
def downF (size : Nat) (fm : List Nat) (t : Nat) : List Nat := (List.range size).filter fun x => decide (rkF fm (t ^^^ (1 <<< x)) < rkF fm t)
theorem base_rk {fm : List Nat} {t b : Nat} (h : b ∈ basesF fm t) : bits b = rkF fm t := bases_bits h
theorem xx (t a b : Nat) : (t ^^^ a) ^^^ b = (t ^^^ b) ^^^ a := by rw [Nat.xor_assoc, Nat.xor_comm a b, ← Nat.xor_assoc]
/-- the bases one thing on -/
theorem base_step {size : Nat} {fm : List Nat} (ok : FamOk size fm) {t x b : Nat} (ht : t < 1 <<< size) (hx : x < size) (h : b ∈ basesF fm t) (hb : b.testBit x = true) : b ^^^ (1 <<< x) ∈ basesF fm (t ^^^ (1 <<< x)) ∧ rkF fm (t ^^^ (1 <<< x)) + 1 = rkF fm t := by
  have hz := ok.s5
  obtain ⟨h1, h2⟩ := bases_mem.mp h
  have b32 := bases_lt ok ht h
  have e1 := bit_off b b32 x (by omega) hb
  have e2 := base_rk h
  have h3 : (b ^^^ (1 <<< x)) ^^^ (t ^^^ (1 <<< x)) ∈ fm := by
    have : (b ^^^ (1 <<< x)) ^^^ (t ^^^ (1 <<< x)) = b ^^^ t := by
      rw [Nat.xor_comm t, ← Nat.xor_assoc, back]
    rw [this]; exact h1
  have h4 := rk_le (t := t ^^^ (1 <<< x)) h3
  rw [back] at h4
  have h5 := (rk_lip ok ht hx).2
  refine ⟨bases_mem.mpr ⟨h3, fun c hc => ?_⟩, by omega⟩
  have := rk_le (t := t ^^^ (1 <<< x)) hc
  rw [back] at this
  omega
theorem base_back {size : Nat} {fm : List Nat} (ok : FamOk size fm) {t x b : Nat} (ht : t < 1 <<< size) (hx : x < size) (hr : rkF fm (t ^^^ (1 <<< x)) < rkF fm t) (h : b ∈ basesF fm (t ^^^ (1 <<< x))) : b ^^^ (1 <<< x) ∈ basesF fm t ∧ (b ^^^ (1 <<< x)).testBit x = true := by
  have hz := ok.s5
  obtain ⟨h1, h2⟩ := bases_mem.mp h
  have b32 := bases_lt ok (tog_sh ht hx) h
  have e2 := base_rk h
  have h5 := (rk_lip ok ht hx).2
  have h3 : (b ^^^ (1 <<< x)) ^^^ t ∈ fm := by rw [Nat.xor_assoc, Nat.xor_comm _ t]; exact h1
  have h4 := rk_le (t := t) h3
  rw [back] at h4
  have h6 := bits_tog b b32 x (by omega)
  refine ⟨bases_mem.mpr ⟨h3, fun c hc => ?_⟩, ?_⟩
  · have := rk_le (t := t) hc
    rw [back] at this
    omega
  · rw [tog_eq]
    cases hb : b.testBit x with
    | false => rfl
    | true =>
      have := bit_off b b32 x (by omega) hb
      omega
theorem down_mem {size : Nat} {fm : List Nat} (ok : FamOk size fm) {t x : Nat} (ht : t < 1 <<< size) : x ∈ downF size fm t ↔ x < size ∧ ∃ b ∈ basesF fm t, b.testBit x = true := by
  unfold downF
  rw [List.mem_filter, List.mem_range, decide_eq_true_eq]
  constructor
  · rintro ⟨hx, hr⟩
    obtain ⟨b, hb⟩ := List.exists_mem_of_ne_nil _ (bases_ne (t := t ^^^ (1 <<< x)) ok.ne)
    obtain ⟨h1, h2⟩ := base_back ok ht hx hr hb
    exact ⟨hx, _, h1, h2⟩
  · rintro ⟨hx, b, hb, h2⟩
    have := (base_step ok ht hx hb h2).2
    exact ⟨hx, by omega⟩
/-- two lower together by two just with a base that has both -/
theorem pair_bits : ∀ n : Nat, n < 32 → ∀ x : Nat, x < 5 → ∀ z : Nat, z < x → bits (n ^^^ ((1 <<< x) + (1 <<< z))) ≤ bits n + 2 ∧ bits n ≤ bits (n ^^^ ((1 <<< x) + (1 <<< z))) + 2 ∧ (bits n = bits (n ^^^ ((1 <<< x) + (1 <<< z))) + 2 ↔ n &&& ((1 <<< x) + (1 <<< z)) = ((1 <<< x) + (1 <<< z))) := by decide +kernel
theorem pair_lt {size x z : Nat} (h5 : size ≤ 5) (hx : x < size) (hz : z < x) : (1 <<< x) + (1 <<< z) < 1 <<< size := by
  have : ∀ size : Nat, size < 6 → ∀ x : Nat, x < size → ∀ z : Nat, z < x → (1 <<< x) + (1 <<< z) < 1 <<< size := by decide +kernel
  exact this size (by omega) x hx z hz
theorem pair_down {size : Nat} {fm : List Nat} (ok : FamOk size fm) {t x z : Nat} (ht : t < 1 <<< size) (hx : x < size) (hzx : z < x) :
    (rkF fm (t ^^^ ((1 <<< x) + (1 <<< z))) + 2 = rkF fm t) ↔ ∃ b ∈ basesF fm t, b &&& ((1 <<< x) + (1 <<< z)) = (1 <<< x) + (1 <<< z) := by
  have hz := ok.s5
  have hp := pair_lt hz hx hzx
  generalize hP : (1 <<< x) + (1 <<< z) = p at *
  have pb : ∀ n, n < 32 → bits (n ^^^ p) ≤ bits n + 2 ∧ bits n ≤ bits (n ^^^ p) + 2 ∧ (bits n = bits (n ^^^ p) + 2 ↔ n &&& p = p) := by rw [← hP]; exact fun n hn => pair_bits n hn x (by omega) z hzx
  have ht2 := xor_lt_sh ht hp
  obtain ⟨g, hg, eg⟩ := rk_at (t ^^^ p) ok.ne
  have g32 : g ^^^ t < 32 := x32 hz (ok.lt g hg) ht
  have e1 : g ^^^ (t ^^^ p) = (g ^^^ t) ^^^ p := by rw [Nat.xor_assoc]
  constructor
  · intro h
    have h1 := rk_le (t := t) hg
    have h2 := pb _ g32
    rw [e1] at eg
    refine ⟨g ^^^ t, bases_mem.mpr ⟨by rw [back]; exact hg, fun c hc => ?_⟩, h2.2.2.mp (by omega)⟩
    have := rk_le (t := t) hc
    rw [back] at this
    omega
  · rintro ⟨b, hb, hbp⟩
    have b32 := bases_lt ok ht hb
    have h2 := (pb b b32).2.2.mpr hbp
    have h3 := base_rk hb
    have h4 : (b ^^^ p) ^^^ (t ^^^ p) ∈ fm := by rw [Nat.xor_comm t, ← Nat.xor_assoc, back]; exact (bases_mem.mp hb).1
    have h5 := rk_le (t := t ^^^ p) h4
    rw [back] at h5
    have h6 := pb _ g32
    have h7 := rk_le (t := t) hg
    rw [e1] at eg
    omega
/-! ### ways down -/
theorem sub_bits : ∀ y : Nat, y < 32 → ∀ b : Nat, b < 32 → y &&& b = y → bits (b ^^^ y) + bits y = bits b := by decide +kernel
theorem bits_tri : ∀ a : Nat, a < 32 → ∀ b : Nat, b < 32 → bits (a ^^^ b) ≤ bits a + bits b := by decide +kernel
theorem rk_tri {size : Nat} {fm : List Nat} (ok : FamOk size fm) {t y : Nat} (ht : t < 1 <<< size) (hy : y < 1 <<< size) : rkF fm t ≤ rkF fm (t ^^^ y) + bits y := by
  have hz := ok.s5
  obtain ⟨g, hg, eg⟩ := rk_at (t ^^^ y) ok.ne
  have h1 := rk_le (t := t) hg
  have h2 := bits_tri (g ^^^ (t ^^^ y)) (x32 hz (ok.lt g hg) (xor_lt_sh ht hy)) y (sh32 hz hy)
  have e : (g ^^^ (t ^^^ y)) ^^^ y = g ^^^ t := by rw [← Nat.xor_assoc, back]
  rw [e] at h2
  omega
/-- a part of a base lowers by as much as it has -/
theorem part_down {size : Nat} {fm : List Nat} (ok : FamOk size fm) {t y b : Nat} (ht : t < 1 <<< size) (hb : b ∈ basesF fm t) (hy : y &&& b = y) : rkF fm (t ^^^ y) + bits y = rkF fm t := by
  have hz := ok.s5
  have b32 := bases_lt ok ht hb
  have hyb : y ≤ b := by rw [← hy]; exact Nat.and_le_right
  have bsz : b < 1 <<< size := by
    have h := bases_mem.mp hb
    have := xor_lt_sh (ok.lt _ h.1) ht
    rwa [back] at this
  have h1 := rk_tri ok ht (by omega : y < 1 <<< size)
  have h2 : (b ^^^ y) ^^^ (t ^^^ y) ∈ fm := by rw [Nat.xor_comm t, ← Nat.xor_assoc, back]; exact (bases_mem.mp hb).1
  have h3 := rk_le (t := t ^^^ y) h2
  rw [back] at h3
  have h4 := sub_bits y (by omega) b b32 hy
  have h5 := base_rk hb
  omega
/-- the lots that k steps down reach -/
def stepsF (size : Nat) (fm : List Nat) (t k : Nat) : List Nat := (List.range (1 <<< size)).filter fun n => decide (bits (n ^^^ t) = k) && decide (rkF fm n + k = rkF fm t)
theorem steps_mem {size : Nat} {fm : List Nat} {t k n : Nat} : n ∈ stepsF size fm t k ↔ n < 1 <<< size ∧ bits (n ^^^ t) = k ∧ rkF fm n + k = rkF fm t := by
  unfold stepsF
  rw [List.mem_filter, List.mem_range, Bool.and_eq_true, decide_eq_true_eq, decide_eq_true_eq]
theorem bits_zero : ∀ a : Nat, a < 32 → bits a = 0 → a = 0 := by decide +kernel
theorem steps_zero {size : Nat} {fm : List Nat} {t : Nat} (h5 : size ≤ 5) (ht : t < 1 <<< size) : ∀ n, n ∈ stepsF size fm t 0 ↔ n = t := fun n => by
  rw [steps_mem]
  constructor
  · rintro ⟨h1, h2, _⟩
    have h3 := bits_zero _ (x32 h5 h1 ht) h2
    have := congrArg (· ^^^ t) h3
    simpa [Nat.xor_assoc] using this
  · rintro rfl
    exact ⟨ht, by rw [Nat.xor_self]; rfl, rfl⟩
theorem some_bit : ∀ a : Nat, a < 32 → bits a ≠ 0 → ∃ x, x < 5 ∧ a.testBit x = true := by
  have h : ∀ a : Nat, a < 32 → bits a ≠ 0 → (List.range 5).any (fun x => a.testBit x) = true := by decide +kernel
  intro a ha hb
  obtain ⟨x, hx, h2⟩ := List.any_eq_true.mp (h a ha hb)
  exact ⟨x, List.mem_range.mp hx, h2⟩
theorem bit_sz {size a x : Nat} (h : a < 1 <<< size) (hx : a.testBit x = true) : x < size := tb_lt (by rw [← Nat.one_shiftLeft]; exact h) hx
theorem steps_succ {size : Nat} {fm : List Nat} (ok : FamOk size fm) {t k : Nat} (ht : t < 1 <<< size) (n : Nat) : n ∈ stepsF size fm t (k + 1) ↔ ∃ s ∈ stepsF size fm t k, ∃ x ∈ downF size fm s, n = s ^^^ (1 <<< x) := by
  have hz := ok.s5
  constructor
  · intro h
    obtain ⟨h1, h2, h3⟩ := steps_mem.mp h
    obtain ⟨x, hx5, hx⟩ := some_bit _ (x32 hz h1 ht) (by omega)
    have hxs := bit_sz (xor_lt_sh h1 ht) hx
    have e : (n ^^^ (1 <<< x)) ^^^ t = (n ^^^ t) ^^^ (1 <<< x) := xx _ _ _
    have b1 := bit_off _ (x32 hz h1 ht) x hx5 hx
    have hs := tog_sh h1 hxs
    have r1 := (rk_lip ok h1 hxs)
    have r2 := rk_tri ok ht (xor_lt_sh hs ht)
    have e2 : t ^^^ ((n ^^^ (1 <<< x)) ^^^ t) = n ^^^ (1 <<< x) := by rw [Nat.xor_comm, back]
    rw [e2, e] at r2
    have hr : rkF fm (n ^^^ (1 <<< x)) + k = rkF fm t := by omega
    refine ⟨n ^^^ (1 <<< x), steps_mem.mpr ⟨hs, by rw [e]; omega, hr⟩, x, ?_, (back n (1 <<< x)).symm⟩
    unfold downF
    rw [List.mem_filter, List.mem_range, decide_eq_true_eq, back]
    exact ⟨hxs, by omega⟩
  · rintro ⟨s, hs, x, hx, rfl⟩
    obtain ⟨h1, h2, h3⟩ := steps_mem.mp hs
    unfold downF at hx
    rw [List.mem_filter, List.mem_range, decide_eq_true_eq] at hx
    obtain ⟨hxs, hx⟩ := hx
    have r1 := rk_lip ok h1 hxs
    have hn := tog_sh h1 hxs
    have e : (s ^^^ (1 <<< x)) ^^^ t = (s ^^^ t) ^^^ (1 <<< x) := xx _ _ _
    have b1 := bits_tog (s ^^^ t) (x32 hz h1 ht) x (by omega)
    have r2 := rk_tri ok ht (xor_lt_sh hn ht)
    have e2 : t ^^^ ((s ^^^ (1 <<< x)) ^^^ t) = s ^^^ (1 <<< x) := by rw [Nat.xor_comm, back]
    rw [e2, e] at r2
    rw [← e] at b1 r2
    refine steps_mem.mpr ⟨hn, by omega, by omega⟩
theorem steps_near {size : Nat} {fm : List Nat} (ok : FamOk size fm) {t : Nat} (ht : t < 1 <<< size) (n : Nat) : n ∈ stepsF size fm t (rkF fm t) ↔ n ∈ nearF fm t := by
  have hz := ok.s5
  rw [steps_mem]
  unfold nearF
  rw [List.mem_filter, decide_eq_true_eq]
  constructor
  · rintro ⟨h1, h2, h3⟩
    have h4 : rkF fm n = 0 := by omega
    obtain ⟨g, hg, eg⟩ := rk_at n ok.ne
    have h5 := bits_zero _ (x32 hz (ok.lt g hg) h1) (by omega)
    have e : g = n := by
      have := congrArg (· ^^^ n) h5
      simpa [Nat.xor_assoc] using this
    subst e
    exact ⟨hg, h2⟩
  · rintro ⟨h1, h2⟩
    refine ⟨ok.lt n h1, h2, ?_⟩
    have := rk_le (t := n) h1
    rw [Nat.xor_self] at this
    have : bits 0 = 0 := rfl
    omega
end W7
end
section
namespace W7
open PySem PySem.Spec PyProof.Rows L2 L3 Evl
/-! ### comprehensions over enumerate -/
/-- what a turn of a comprehension asks, N behind it -/
def TurnW (g : TG) (tt : TT) (te : TE) (vs : List Nat) (σ : L2.St) (D : Addr) (N : Hp → Prop) (x : V) (H : Hp) : Prop :=
  g x (wipe σ vs) H fun σ2 H2 => wipe σ2 vs = wipe σ vs ∧ tt σ2 H2 fun b H3 => if b = true then te σ2 H3 fun y H4 => ∃ acc, H4 D = some (.lst acc) ∧ acc.length < sizeLine ∧ N (upd H4 D (.lst (acc ++ [y])))
    else N H3
/-- an iterator of n turns is walked to its end by a comprehension -/
theorem lc_any {J : It} {n : Nat} {g : TG} {tt : TT} {te : TE} {vs : List Nat} {σ : L2.St} {H1 : Hp} {D : Addr} {Qd : Hp → Prop} (Pv : Nat → Hp → Prop) (h0 : Pv 0 (upd H1 D (.lst []))) (hg : ∀ i H, i < n → Pv i H → J.go i H) (hz : ∀ H, Pv n H → J.stop n H)
    (hs : ∀ i x H H', i < n → Pv i H → J.yld i H x H' → TurnW g tt te vs σ D (Pv (i + 1)) x H') (hd : ∀ H, Pv n H → Qd H) :
    ∃ W : Nat → Nat → Hp → Prop, (∃ m, W 0 m (upd H1 D (.lst []))) ∧ ∀ i m H, W i m H → (J.stop i H ∧ Qd H) ∨
      (J.go i H ∧ ∃ N : Hp → Prop, (∀ H', N H' → ∃ m', m' < m ∧ W (i + 1) m' H') ∧ ∀ x H', J.yld i H x H' → TurnW g tt te vs σ D N x H') := by
  refine ⟨fun i m H => i + m = n ∧ Pv i H, ⟨n, Nat.zero_add n, h0⟩, fun i m H w => ?_⟩
  obtain ⟨e, p⟩ := w
  cases m with
  | zero =>
    have e : i = n := e
    subst e
    exact Or.inl ⟨hz H p, hd H p⟩
  | succ m =>
    have lt : i < n := by omega
    exact Or.inr ⟨hg i H lt p, Pv (i + 1), fun H' p' => ⟨m, Nat.lt_succ_self m, by omega, p'⟩, fun x H' y => hs i x H H' lt p y⟩
theorem lc_enumL {K : PySem.W.Frag} {a : Addr} {xs : List V} {g : TG} {tt : TT} {te : TE} {vs : List Nat} {σ : L2.St} {H1 : Hp} {D : Addr} {Qd : Hp → Prop} (Pv : Nat → Hp → Prop) (h0 : Pv 0 (upd H1 D (.lst []))) (hl : ∀ i H, i ≤ xs.length → Pv i H → SqL K H a xs)
    (hs : ∀ i x H T, xs[i]? = some x → Pv i H → H T = none → g (.ref T) (wipe σ vs) (upd H T (.tup [.int (i : Nat), x])) fun σ2 H2 => wipe σ2 vs = wipe σ vs ∧ tt σ2 H2 fun b H3 => if b = true then te σ2 H3 fun y H4 => ∃ acc, H4 D = some (.lst acc) ∧ acc.length < sizeLine ∧ Pv (i + 1) (upd H4 D (.lst (acc ++ [y]))) else Pv (i + 1) H3) (hd : ∀ H, Pv xs.length H → Qd H) :
    ∃ W : Nat → Nat → Hp → Prop, (∃ m, W 0 m (upd H1 D (.lst []))) ∧ ∀ i m H, W i m H → ((Ite K a).stop i H ∧ Qd H) ∨
      ((Ite K a).go i H ∧ ∃ N : Hp → Prop, (∀ H', N H' → ∃ m', m' < m ∧ W (i + 1) m' H') ∧ ∀ x H', (Ite K a).yld i H x H' → g x (wipe σ vs) H' fun σ2 H2 => wipe σ2 vs = wipe σ vs ∧ tt σ2 H2 fun b H3 => if b = true then te σ2 H3 fun y H4 => ∃ acc, H4 D = some (.lst acc) ∧ acc.length < sizeLine ∧ N (upd H4 D (.lst (acc ++ [y]))) else N H3) := by
  refine lc_any (J := Ite K a) (g := g) (tt := tt) (te := te) (n := xs.length) Pv h0 (fun i H lt p => ?_) (fun H p => ⟨xs, hl _ H (Nat.le_refl _) p, Nat.le_refl _⟩) (fun i v H H' lt p y => ?_) hd
  · obtain ⟨x, hx⟩ := get_some lt
    exact ⟨xs, x, hl i H (Nat.le_of_lt lt) p, hx⟩
  · obtain ⟨T, x, rfl, free, rfl, is⟩ := y
    exact hs i x H T (is xs (hl i H (Nat.le_of_lt lt) p)) p free
/-- [f(i, n) for i, n in enumerate(ns) if t], ns a list of naturals that is known -/
theorem el_enumN {K : PySem.W.Frag} {σ : L2.St} {H : Hp} {tl te : TE} {a : Addr} {ns : List Nat} {j1 j2 : Nat} {vs : List Nat} {tt : TT} (F : Nat → Nat → Bool) (G : Nat → Nat → V) (h : Ev tl σ H (.ref a)) (hx : SqL K H a (nv ns)) (hz : ns.length ≤ 40000)
    (hw : ∀ x y, wipe (((wipe σ vs).set j1 (some x)).set j2 (some y)) vs = wipe σ vs)
    (ht : ∀ (i n : Nat) H1, Ex H H1 → ns[i]? = some n → EvT tt (((wipe σ vs).set j1 (some (.int (i : Nat)))).set j2 (some (.int (n : Nat)))) H1 (F i n))
    (he : ∀ (i n : Nat) H1, Ex H H1 → ns[i]? = some n → F i n = true → Ev te (((wipe σ vs).set j1 (some (.int (i : Nat)))).set j2 (some (.int (n : Nat)))) H1 (G i n)) :
    EvL (tLc (iEnumA K (tCons tl tNil)) (gTup K 2 (gCons (gName j1) (gCons (gName j2) gNil))) tt te vs) σ H (((List.range ns.length).filter fun i => F i (ns.getD i 0)).map fun i => G i (ns.getD i 0)) := fun H0 e Q q => h H0 e _ fun H1 e1 => ⟨a, nv ns, rfl, .inl ⟨ex_l (e.trans e1) hx, fun Dl hD =>
  lc_enumL (xs := nv ns) (fun i H' => H1 Dl = none ∧ Ex H1 H' ∧ H' Dl = some (.lst (((List.range i).filter fun i => F i (ns.getD i 0)).map fun i => G i (ns.getD i 0)))) ⟨hD, Ex.new hD, upd_same⟩ (fun i H' _ p => ex_l ((e.trans e1).trans p.2.1) hx) (fun i x H' T hi ⟨p1, p2, p3⟩ hT => by
    obtain ⟨n, hn, rfl⟩ := nv_get hi
    have hil := (List.getElem?_eq_some_iff.mp hn).1
    have hg : ns.getD i 0 = n := by simp [List.getD, hn]
    have eT := Ex.new (o := .tup [.int (i : Nat), .int (n : Nat)]) hT
    have lenb : (((List.range i).filter fun i => F i (ns.getD i 0)).map fun i => G i (ns.getD i 0)).length ≤ i := by
      rw [List.length_map]
      refine Nat.le_trans (List.length_filter_le _ _) ?_
      rw [List.length_range]; exact Nat.le_refl _
    refine ⟨T, [.int (i : Nat), .int (n : Nat)], rfl, st_of upd_same, rfl, _, _, rfl, _, _, rfl, rfl, hw _ _, ?_⟩
    refine ht i n H' (e.trans (e1.trans p2)) hn _ eT _ fun H3 e3 => ?_
    have ee := p2.trans (eT.trans e3)
    have p4 := e3 _ _ (eT _ _ p3)
    cases hf : F i n with
    | true =>
      show te _ H3 _
      refine he i n H' (e.trans (e1.trans p2)) hn hf H3 (eT.trans e3) _ fun H4 e4 => ⟨_, e4 _ _ p4, sz_lt (by omega), p1, Ex.mut (ee.trans e4) p1, ?_⟩
      rw [upd_same, List.range_succ, List.filter_append, List.map_append, List.filter_cons, hg, if_pos hf]
      simp [hn]
    | false =>
      show _ ∧ _ ∧ _
      refine ⟨p1, ee, ?_⟩
      rw [p4, List.range_succ, List.filter_append, List.map_append, List.filter_cons, hg, if_neg (by rw [hf]; decide)]
      simp) (fun H' ⟨p1, p2, p3⟩ => q Dl H' (fresh_back e1 p1) (e1.trans p2) (by rw [nv_len] at p3; exact p3))⟩⟩
end W7
end
section
namespace W7
open PySem PySem.Spec PyProof.Rows L2 L3 Evl
section
variable {X : Cx} {K : PySem.W.Frag} {e l : Expr} {f : Str} {pos : Pos} {ta tl : TE} {tg : Expr}
/-! ### forms with K said, for blocks -/
theorem pe_fldK (hK : X.K = K) (he : PE X e ta) (hb : attributeBase e f X.env (eval e X.env) = eval e X.env) : PE X (.Attribute e f pos) (tFld K ta f) := hK ▸ pe_fld he hb
theorem pi_listK (hK : X.K = K) (hl : PE X l tl) : PI X tg l (iList K tl) := hK ▸ pi_list hl
theorem pi_tupK (hK : X.K = K) (hl : PE X l tl) : PI X tg l (iTup K tl) := hK ▸ pi_tup hl
theorem op_in_seqK (hK : X.K = K) : OpR X (compareOp .In) (rIn K false) := hK ▸ op_in_seq
theorem op_notIn_seqK (hK : X.K = K) : OpR X (compareOp .NotIn) (rIn K true) := hK ▸ op_notIn_seq
theorem call_len_seqK (hK : X.K = K) : CallR X (.builtin "len") (rLenS K) := hK ▸ call_len_seq
theorem call_tuple_ofK (hK : X.K = K) : CallR X (.type "tuple") (rTupOf K) := hK ▸ call_tuple_of
theorem cr_minK (hK : X.K = K) (hc : X.calm = true) : CallR X (.builtin "min") (rMin K) := hK ▸ cr_min hc
theorem cr_maxK (hK : X.K = K) (hc : X.calm = true) : CallR X (.builtin "max") (rMax K) := hK ▸ cr_max hc
end
end W7
end
section
namespace W7
open PySem PySem.Spec PyProof.Rows L2 L3 Evl
open C8 (Cal pe_c Mak pe_mk Met pe_mt pe_mt0)
section
variable {X : Cx} {K : PySem.W.Frag} {P : Program} {w : World}
theorem cr_setOfTK (hK : X.K = K) (hP : X.prog = P) (hw : X.w = w) (hc : X.calm = true) (hu : X.A.units + 64 < cLine) : CallR X (.type "set") (rSetOfT K P w) := hK ▸ hP ▸ hw ▸ cr_setOfT hc hu
theorem cr_sortSetLK (hK : X.K = K) (hP : X.prog = P) (hw : X.w = w) (hc : X.calm = true) (hu : X.A.units + 64 < cLine) : CallR X (.builtin "sorted") (rSortSetL K P w) := hK ▸ hP ▸ hw ▸ cr_sortSetL hc hu
theorem cr_anyK (hK : X.K = K) (hc : X.calm = true) : CallR X (.builtin "any") (rAny K) := hK ▸ cr_any hc
theorem units65 {k : Nat} {A : Around} (r : Room k A) : A.units + 65 < cLine := by have := r.un; omega
end
theorem lexLe_anti {x y : List Nat} (h1 : lexLe x y) (h2 : lexLe y x) : x = y := by
  have e := List.le_antisymm h1 h2
  exact List.map_inj_right (fun a b h => by omega) |>.mp e
theorem lots_eq {L M : List (List Nat)} (h : L.Perm M) (h1 : L.Pairwise lexLe) (h2 : M.Pairwise lexLe) : L = M := h.eq_of_pairwise (fun a b _ _ => lexLe_anti) h1 h2
/-! ### data of lots -/
theorem dp_nats {K : PySem.W.Frag} {H : Hp} : ∀ ns : List Nat, DpAll K H (nv ns) ((ns.map fun n => ((n : Nat) : Int)).map PyData.int)
  | [] => .nil
  | n :: ns => .cons (.int _) (dp_nats ns)
def rowD (ns : List Nat) : PyData := .tuple ((ns.map fun n => ((n : Nat) : Int)).map PyData.int)
theorem dp_lots {K : PySem.W.Frag} {H : Hp} : ∀ {rs : List V} {L : List (List Nat)}, Lots H rs L → DpAll K H rs (L.map rowD)
  | [], [], _ => .nil
  | [], _ :: _, h => by have := h.1; simp at this
  | _ :: _, [], h => by have := h.1; simp at this
  | r :: rs, ns :: L, h => by
    obtain ⟨t, rfl, ht⟩ := h.2 0 r ns rfl rfl
    exact .cons (.tup (st_of ht) (dp_nats ns)) (dp_lots ⟨by have := h.1; simpa using this, fun i r ns a b => h.2 (i + 1) r ns a b⟩)
theorem lay_lots : ∀ L : List (List Nat), PyData.canLayAll0 (L.map rowD) = true
  | [] => by rw [List.map_nil]; simp [PyData.canLayAll0]
  | ns :: L => by
    rw [List.map_cons]
    simp only [PyData.canLayAll0, rowD, PyData.canLay0, Bool.and_eq_true]
    exact ⟨PySem.W.canLayAll0_ints _, lay_lots L⟩
theorem depth_lots : ∀ L : List (List Nat), PyData.depthAll (L.map rowD) ≤ 2
  | [] => by rw [List.map_nil]; simp [PyData.depthAll]
  | ns :: L => by
    have h1 := depth_lots L
    have h2 := PySem.W.depthAll_ints (ns.map fun n => ((n : Nat) : Int))
    rw [List.map_cons]
    simp only [PyData.depthAll, rowD, PyData.depth] at *
    omega
theorem shaped_lots (L : List (List Nat)) : SeqAt.shaped (.tuple (L.map rowD)) = true ∧ SeqAt.shaped (.list (L.map rowD)) = true := by
  have h1 := depth_lots L
  have h2 : PyData.depth (.tuple (L.map rowD)) ≤ 64 := by simp only [PyData.depth]; omega
  have h3 : PyData.depth (.list (L.map rowD)) ≤ 64 := by simp only [PyData.depth]; omega
  constructor
  · show (PyData.canLay0 (.tuple (L.map rowD)) && decide (PyData.depth (.tuple (L.map rowD)) ≤ 64)) = true
    rw [Bool.and_eq_true]
    exact ⟨by simp only [PyData.canLay0]; exact lay_lots L, decide_eq_true h2⟩
  · show (PyData.canLay0 (.list (L.map rowD)) && decide (PyData.depth (.list (L.map rowD)) ≤ 64)) = true
    rw [Bool.and_eq_true]
    exact ⟨by simp only [PyData.canLay0]; exact lay_lots L, decide_eq_true h3⟩
theorem shaped_row (ns : List Nat) : SeqAt.shaped (rowD ns) = true := by
  have h2 := PySem.W.depthAll_ints (ns.map fun n => ((n : Nat) : Int))
  have h3 : PyData.depth (rowD ns) ≤ 64 := by unfold rowD; simp only [PyData.depth]; omega
  show (PyData.canLay0 (rowD ns) && decide (PyData.depth (rowD ns) ≤ 64)) = true
  rw [Bool.and_eq_true]
  exact ⟨by unfold rowD; simp only [PyData.canLay0]; exact PySem.W.canLayAll0_ints _, decide_eq_true h3⟩
theorem eqv_self {d : PyData} (h : SeqAt.shaped d = true) : PyData.eqv d d = true := SeqAt.eqv_refl _ (SeqAt.canLay_of_shaped h)
section
variable {K : PySem.W.Frag} {σ : L2.St} {H : Hp} {ta tb te tl : TE} {v : V} {tt : TT}
/-- tuple comparisons of known equal rows -/
theorem ev_neLots {r s : V} {L : List (List Nat)} (h : ∀ H1, Ex H H1 → ∀ Q : VK, (∀ p q rs ss H2, Ex H1 H2 → (H2 p = some (.tup rs) ∧ H2 q = some (.tup ss) ∨ H2 p = some (.lst rs) ∧ H2 q = some (.lst ss)) → Lots H2 rs L → Lots H2 ss L → rNeD K (.ref p) (.ref q) H2 Q) → tOp (rNeD K) ta tb σ H1 Q) : Ev (tOp (rNeD K) ta tb) σ H (.bl false) := fun H1 e Q q => h H1 e Q fun p q' rs ss H2 e2 hpq l1 l2 => by
  rcases hpq with ⟨h1, h2⟩ | ⟨h1, h2⟩
  · refine ⟨_, _, .tup (st_of h1) (dp_lots l1), .tup (st_of h2) (dp_lots l2), (shaped_lots L).1, (shaped_lots L).1, ?_⟩
    rw [eqv_self (shaped_lots L).1]
    exact q H2 e2
  · refine ⟨_, _, .lst (sq_of h1) (dp_lots l1), .lst (sq_of h2) (dp_lots l2), (shaped_lots L).2, (shaped_lots L).2, ?_⟩
    rw [eqv_self (shaped_lots L).2]
    exact q H2 e2
/-- two tuples of the same naturals -/
theorem ev_neRowsUU {ns : List Nat} (ha : EvU ta σ H (nv ns)) (hb : ∀ H1, Ex H H1 → EvU tb σ H1 (nv ns)) : Ev (tOp (rNeD K) ta tb) σ H (.bl false) := fun H1 e Q q =>
  ha H1 e _ fun p H2 hp e2 h2 => hb H2 (e.trans e2) H2 (Ex.refl _) _ fun p2 H3 hp2 e3 h3 => by
    refine ⟨_, _, .tup (st_of (e3 _ _ h2)) (dp_nats ns), .tup (st_of h3) (dp_nats ns), shaped_row ns, shaped_row ns, ?_⟩
    have := eqv_self (shaped_row ns)
    unfold rowD at this
    rw [this]
    exact q H3 (e2.trans e3)
/-- [f(i, v) for i, v in enumerate(xs) if t], the list new -/
theorem el_enumV {xs : List V} {j1 j2 : Nat} {vs : List Nat} (F : Nat → V → Bool) (G : Nat → V → V) (h : EvL tl σ H xs) (hz : xs.length ≤ 40000)
    (hw : ∀ x y, wipe (((wipe σ vs).set j1 (some x)).set j2 (some y)) vs = wipe σ vs)
    (ht : ∀ (i : Nat) (v : V) H1, Ex H H1 → xs[i]? = some v → EvT tt (((wipe σ vs).set j1 (some (.int (i : Nat)))).set j2 (some v)) H1 (F i v))
    (he : ∀ (i : Nat) (v : V) H1, Ex H H1 → xs[i]? = some v → F i v = true → Ev te (((wipe σ vs).set j1 (some (.int (i : Nat)))).set j2 (some v)) H1 (G i v)) :
    EvL (tLc (iEnumA K (tCons tl tNil)) (gTup K 2 (gCons (gName j1) (gCons (gName j2) gNil))) tt te vs) σ H (((List.range xs.length).filter fun i => F i (xs.getD i .non)).map fun i => G i (xs.getD i .non)) := fun H0 e Q q => h H0 e _ fun a H1 ha e1 hx => ⟨a, xs, rfl, .inl ⟨sq_of hx, fun Dl hD =>
  lc_enumL (xs := xs) (fun i H' => H1 Dl = none ∧ Ex H1 H' ∧ H' Dl = some (.lst (((List.range i).filter fun i => F i (xs.getD i .non)).map fun i => G i (xs.getD i .non)))) ⟨hD, Ex.new hD, upd_same⟩ (fun i H' _ p => sq_of (p.2.1 _ _ hx)) (fun i x H' T hi ⟨p1, p2, p3⟩ hT => by
    have hil := (List.getElem?_eq_some_iff.mp hi).1
    have hg : xs.getD i .non = x := by simp [List.getD, hi]
    have eT := Ex.new (o := .tup [.int (i : Nat), x]) hT
    have lenb : (((List.range i).filter fun i => F i (xs.getD i .non)).map fun i => G i (xs.getD i .non)).length ≤ i := by
      rw [List.length_map]
      refine Nat.le_trans (List.length_filter_le _ _) ?_
      rw [List.length_range]; exact Nat.le_refl _
    refine ⟨T, [.int (i : Nat), x], rfl, st_of upd_same, rfl, _, _, rfl, _, _, rfl, rfl, hw _ _, ?_⟩
    refine ht i x H' (e.trans (e1.trans p2)) hi _ eT _ fun H3 e3 => ?_
    have ee := p2.trans (eT.trans e3)
    have p4 := e3 _ _ (eT _ _ p3)
    cases hf : F i x with
    | true =>
      show te _ H3 _
      refine he i x H' (e.trans (e1.trans p2)) hi hf H3 (eT.trans e3) _ fun H4 e4 => ⟨_, e4 _ _ p4, sz_lt (by omega), p1, Ex.mut (ee.trans e4) p1, ?_⟩
      rw [upd_same, List.range_succ, List.filter_append, List.map_append, List.filter_cons, hg, if_pos hf]
      simp [hi]
    | false =>
      show _ ∧ _ ∧ _
      refine ⟨p1, ee, ?_⟩
      rw [p4, List.range_succ, List.filter_append, List.map_append, List.filter_cons, hg, if_neg (by rw [hf]; decide)]
      simp) (fun H' ⟨p1, p2, p3⟩ => q Dl H' (fresh_back e1 p1) (e1.trans p2) p3)⟩⟩
/-- [..] over a tuple that is known -/
theorem el_lcTup {a : Addr} {xs : List V} {j : Nat} {vs : List Nat} (f : Nat → Bool) (v : Nat → V) (h : Ev tl σ H (.ref a)) (hx : SqT K H a xs) (hz : xs.length ≤ 40000) (hw : ∀ x, wipe ((wipe σ vs).set j (some x)) vs = wipe σ vs)
    (ht : ∀ (i : Nat) (x : V) H1, Ex H H1 → xs[i]? = some x → EvT tt ((wipe σ vs).set j (some x)) H1 (f i)) (he : ∀ (i : Nat) (x : V) H1, Ex H H1 → xs[i]? = some x → f i = true → Ev te ((wipe σ vs).set j (some x)) H1 (v i)) :
    EvL (tLc (iTup K tl) (gName j) tt te vs) σ H (given xs.length f v) := by
  intro H0 e Q q
  apply h H0 e
  intro H1 e1
  refine ⟨a, rfl, ⟨xs, ex_t (e.trans e1) hx⟩, fun Dl free => ?_⟩
  apply lc_tup (xs := xs) fun i H' => Ex H1 H' ∧ H' Dl = some (.lst (given i f v))
  · exact ⟨Ex.new free, upd_same⟩
  · exact fun i H' _ p => ex_t ((e.trans e1).trans p.1) hx
  · rintro i x H' hi ⟨grown, list⟩
    have late := e.trans (e1.trans grown)
    refine ⟨hw x, ht i x H' late hi H' (Ex.refl H') _ fun H3 e3 => ?_⟩
    have list3 := e3 _ _ list
    have low := (List.getElem?_eq_some_iff.mp hi).1
    cases told : f i with
    | true =>
      show te _ H3 _
      refine he i x H' late hi told H3 e3 _ fun H4 e4 => ⟨_, e4 _ _ list3, sz_lt (Nat.lt_of_le_of_lt (given_len i f v) (by omega)), Ex.mut ((grown.trans e3).trans e4) free, ?_⟩
      rw [upd_same, given_yes told]
    | false =>
      show Ex H1 H3 ∧ _
      exact ⟨grown.trans e3, by rw [given_no told]; exact list3⟩
  · exact fun H' p => q Dl H' (fresh_back e1 free) (e1.trans p.1) p.2
theorem el_natsT {a : Addr} {ns : List Nat} {j : Nat} {vs : List Nat} {t : TT} (F : Nat → Bool) (G : Nat → V) (h : Ev tl σ H (.ref a)) (hx : SqT K H a (nv ns)) (hz : ns.length ≤ 40000) (hw : ∀ x, wipe ((wipe σ vs).set j (some x)) vs = wipe σ vs)
    (ht : ∀ (n : Nat) H1, Ex H H1 → n ∈ ns → EvT t ((wipe σ vs).set j (some (.int (n : Nat)))) H1 (F n)) (he : ∀ (n : Nat) H1, Ex H H1 → n ∈ ns → F n = true → Ev te ((wipe σ vs).set j (some (.int (n : Nat)))) H1 (G n)) :
    EvL (tLc (iTup K tl) (gName j) t te vs) σ H ((ns.filter F).map G) := by
  have e := el_lcTup (tt := t) (te := te) (fun i => F (ns.getD i 0)) (fun i => G (ns.getD i 0)) h hx (by rw [nv_len]; exact hz) hw (fun i x H1 e1 hi => by
    obtain ⟨n, hn, rfl⟩ := nv_get hi
    have e2 : ns.getD i 0 = n := by simp [List.getD, hn]
    show EvT t _ H1 (F (ns.getD i 0))
    rw [e2]
    exact ht n H1 e1 (List.mem_of_getElem? hn)) (fun i x H1 e1 hi hf => by
    obtain ⟨n, hn, rfl⟩ := nv_get hi
    have e2 : ns.getD i 0 = n := by simp [List.getD, hn]
    show Ev te _ H1 (G (ns.getD i 0))
    rw [e2] at hf ⊢
    exact he n H1 e1 (List.mem_of_getElem? hn) hf)
  rw [nv_len, given_nats (F := F) (G := G) (fun i n hn => by simp [List.getD, hn]) (fun i n hn => by simp [List.getD, hn])] at e
  exact e
theorem ev_anyL {bs : List Bool} (h : EvL te σ H (bv bs)) : Ev (tCB (rAny K) (tCons te tNil)) σ H (.bl (bs.any id)) := fun H1 e Q q => h H1 e _ fun p H2 hp e2 h2 => ⟨p, bs, rfl, sq_of h2, q H2 e2⟩
theorem et_truB {b : Bool} (h : Ev te σ H (.bl b)) : EvT (fun σ H Q => te σ H fun x H' => ∃ k, TruV K x H' k ∧ Q k H') σ H b := fun H1 e Q q => h H1 e _ fun H2 e2 => ⟨b, rfl, q H2 e2⟩
end
end W7
end
section
namespace W7
open PySem PySem.Spec PyProof.Rows L2 L3 Evl
open C8 (Cal pe_c Mak pe_mk Met pe_mt pe_mt0)
section
variable {P : Program} {w : World} {K : PySem.W.Frag} {mg : Str → Option Value} {base : Heap} {f : Addr} {fd : FuncData} {CF CA : Addr}
def spIsThing : Sp := fun vs H Q _ => ∃ x size : Nat, vs = [.int x, .int size] ∧ x < size ∧ RetV (.bl true) H Q
def spChkThing : Sp := fun vs H Q _ => ∃ x size : Nat, vs = [.int x, .int size] ∧ x < size ∧ RetV (.int x) H Q
def depF (size : Nat) (fm : List Nat) : List Nat := (List.range (1 <<< size)).map (rkF fm)
theorem rng_get {n i : Nat} {F : Nat → Nat} (h : i < n) : ((List.range n).map F).getD i 0 = F i := by
  simp [List.getD, h]
theorem nv_rng {n i : Nat} {F : Nat → Nat} (h : i < n) : (nv ((List.range n).map F))[i]? = some (.int (F i : Nat)) := by
  unfold nv
  rw [List.getElem?_map, List.getElem?_map, List.getElem?_range h]; rfl
theorem sc_depth_row : FnScope ["family", "depths", "inside", "thing", "bit", "mask", "depth"] ["family"] (defScope (top 25)) := ⟨rfl, rfl, rfl, by decide +kernel, rfl, by decide +kernel, by decide +kernel⟩
theorem c_depth_row (C : FC K CF) (F : FnP K "depth_row" (top 25) f fd) (g : mg "depth_row" = some (.ref f)) (B : Bi mg) (c_inside_row : Cal P w K mg base 3 "inside_row" (spFm K CF fun size fm => bv (insF size fm)) []) : Cal P w K mg base 4 "depth_row" (spFm K CF fun size fm => nv (depF size fm)) [] := by
  refine mkCal F g sc_depth_row (fun _ _ _ _ _ _ us hl => match us, hl with | [_], _ => rfl) (fun vs H Q E h => ?_) (fun cdv A outer s H vs Q E hr h => ?_)
  · obtain ⟨a, size, fm, rfl, _⟩ := h
    rfl
  · obtain ⟨a, size, fm, rfl, hf, ok, q⟩ := h
    have hz := ok.s5
    have h64 := pow64 (n := size) (by omega)
    refine ⟨_, (pss_cons (ps_set (i := 1) sc_depth_row.nd rfl (Or.inr rfl) (pe_lc (own := [("inside", 2)]) (g := gName 2) (by rfl) sc_depth_row.nd (pi_list (pe_c c_inside_row hr (by decide) rfl (pa_cons (pv 0) pa_nil))) (blkOk_by (own := [("inside", 2)]) (N := ["family", "depths", "inside", "thing", "bit", "mask", "depth"]) (sc := defScope (top 25)) (by decide +kernel)) (fun _ _ _ _ _ => (pg_name (i := 2) sc_depth_row.nd rfl (by first | exact Or.inl rfl | exact Or.inr rfl))) (fun _ _ _ _ _ => pts_nil) (fun _ _ _ _ _ => (pe_ifExp (pt_val (pv 2)) (pe_nat 0 pe_int) (pe_fldK (K := K) rfl (pv 0) (by rfl)))))) (pss_cons (ps_for PassesOwn.never rfl (pi_range1 rfl B.range (pa_cons (pe_fld (pv 0) rfl) pa_nil)) (pg_name (i := 3) sc_depth_row.nd rfl (by first | exact Or.inl rfl | exact Or.inr rfl)) (pss_cons (ps_set (i := 4) sc_depth_row.nd rfl (by first | exact Or.inl rfl | exact Or.inr rfl) (pe_op on_shl (pe_nat 1 pe_int) (pv 3))) (pss_one (ps_set (i := 1) sc_depth_row.nd rfl (Or.inr rfl) (pe_lc (own := [("mask", 5), ("depth", 6)]) (g := gTup K 2 (gCons (gName 5) (gCons (gName 6) gNil))) (by rfl) sc_depth_row.nd (pi_enumA (by rfl) B.enumerate (pa_cons (pv 1) pa_nil)) (blkOk_by (own := [("mask", 5), ("depth", 6)]) (N := ["family", "depths", "inside", "thing", "bit", "mask", "depth"]) (sc := defScope (top 25)) (by decide +kernel)) (fun _ _ _ _ _ => (pg_tup rfl (pgs_cons (pg_name (i := 5) sc_depth_row.nd rfl (by first | exact Or.inl rfl | exact Or.inr rfl)) (pgs_cons (pg_name (i := 6) sc_depth_row.nd rfl (by first | exact Or.inl rfl | exact Or.inr rfl)) pgs_nil)))) (fun _ _ _ _ _ => pts_nil) (fun _ _ _ _ _ => (pe_callB (call_min2 rfl) (by rfl) B.min (by decide +kernel) (pa_cons (pv 6) (pa_cons (pe_op on_add (pe_ix (on_ix (K := K)) (pv 1) (pe_op on_xor (pv 5) (pv 4)) (fun _ _ => rfl)) (pe_nat 1 pe_int)) pa_nil))))))))) (pss_one (ps_ret (pv 1))))), ?_⟩
    have il : (insF size fm).length = 1 <<< size := by unfold insF; rw [List.length_map, List.length_range]
    have e0 : given (bv (insF size fm)).length (fun _ => true) (fun i => V.int ((dvF size fm 0 i : Nat) : Int)) = nv ((List.range (1 <<< size)).map (dvF size fm 0)) := by
      unfold given nv
      rw [bv_len, il, List.filter_eq_self.mpr (fun _ _ => rfl), List.map_map]; rfl
    have em := el_lcNL (K := K) (t := tYes) (te := tIf (tB (tVar 2)) (tC (.int ((0 : Nat) : Int))) (tFld K (tVar 0) "size")) (tl := tCall (spFm K CF fun size fm => bv (insF size fm)) [] C8.E0 (tCons (tVar 0) tNil)) (j := 2) (vs := [2]) (σ := [some (.ref a), none, none, none, none, none, none]) (H := H) (fun _ => true) (fun i => V.int ((dvF size fm 0 i : Nat) : Int)) (el_call (xs := bv (insF size fm)) (ea_cons (ev_v 0) ea_nil) fun H2 e2 Q2 q2 E2 => ⟨a, size, fm, rfl, hf.ex e2, ok, q2⟩) (by rw [bv_len, il]; omega) (fun _ => rfl) (fun _ _ _ _ _ => et_yes) (fun i x H1 e1 hi _ => by
      have hi2 := (List.getElem?_eq_some_iff.mp hi).1
      rw [bv_len, il] at hi2
      have hx : x = .bl (decide (i ∈ fm)) := by
        unfold bv insF at hi
        rw [List.getElem?_map, List.getElem?_map, List.getElem?_range hi2] at hi
        exact (Option.some.inj hi).symm
      subst hx
      refine ev_if (et_B (ev_v 2)) (fun hb => ?_) (fun hb => ?_)
      · have : dvF size fm 0 i = 0 := if_pos (of_decide_eq_true hb)
        rw [this]; exact ev_c
      · have : dvF size fm 0 i = size := if_neg (of_decide_eq_false hb)
        rw [this]; exact ev_size (hf.ex e1) C (ev_v 0))
    rw [e0] at em
    refine q_asgL em fun c0 H1 hc0 e1 h1 => ?_
    refine q_forR1 (n := (size : Int)) (ea_cons (ev_size (hf.ex e1) C (ev_v 0)) ea_nil) (by omega) (fun i σ H' => Ex H H' ∧ ∃ c v2 v3 v4 v5 v6, H c = none ∧ H' c = some (.lst (nv ((List.range (1 <<< size)).map (dvF size fm i)))) ∧ σ = [some (.ref a), some (.ref c), v2, v3, v4, v5, v6]) (fun H2 e2 => ⟨e1.trans e2, c0, _, _, _, _, _, hc0, e2 _ _ h1, rfl⟩) ?_ ?_
    · rintro i σ H' hi ⟨e0, c, v2, v3, v4, v5, v6, hc, h2, rfl⟩
      have his : i < size := by omega
      refine q_asg (ev_nc ev_c (ev_v 3) ⟨by decide, by omega⟩) fun H2 e2 => ?_
      have h3 := e2 _ _ h2
      have en := el_enumN (K := K) (tl := tVar 1) (te := tCB rMin2 (tCons (tVar 6) (tCons (tOp (rN0 fun a b => .int ((a + b : Nat) : Int)) (tOp (rIxN K) (tVar 1) (tOp (rN0 fun a b => .int ((a ^^^ b : Nat) : Int)) (tVar 5) (tVar 4))) (tC (.int ((1 : Nat) : Int)))) tNil))) (tt := tYes) (j1 := 5) (j2 := 6) (vs := [5, 6]) (σ := [some (.ref a), some (.ref c), v2, some (.int (i : Int)), some (.int (1 <<< i : Nat)), v5, v6]) (H := H2) (fun _ _ => true) (fun m d => .int ((min d (dvF size fm i (m ^^^ (1 <<< i)) + 1) : Nat) : Int)) (ev_v 1) (sq_of h3) (by simp; omega) (fun _ _ => rfl) (fun _ _ _ _ _ => et_yes) (fun m d H3 e3 hm _ => by
        have hm2 := (List.getElem?_eq_some_iff.mp hm).1
        rw [List.length_map, List.length_range] at hm2
        exact ev_min2N (ev_v 6) (ev_n (ev_ix (sq_of (e3 _ _ h3)) (ev_v 1) (ev_n (ev_v 5) (ev_v 4)) (nv_rng (tog_sh hm2 his))) ev_c))
      have e5 : (((List.range ((List.range (1 <<< size)).map (dvF size fm i)).length).filter fun _ => true).map fun m => V.int ((min (((List.range (1 <<< size)).map (dvF size fm i)).getD m 0) (dvF size fm i (m ^^^ (1 <<< i)) + 1) : Nat) : Int)) = nv ((List.range (1 <<< size)).map (dvF size fm (i + 1))) := by
        unfold nv
        rw [List.filter_eq_self.mpr (fun _ _ => rfl), List.length_map, List.length_range, List.map_map]
        refine List.map_congr_left fun m hm => ?_
        rw [rng_get (List.mem_range.mp hm)]; rfl
      rw [e5] at en
      refine s_asgL en fun d H4 hd e4 h4 => ⟨e0.trans (e2.trans e4), d, _, _, _, _, _, fresh_back (e0.trans e2) hd, h4, rfl⟩
    · rintro σ H' ⟨e0, c, v2, v3, v4, v5, v6, hc, h2, rfl⟩
      have e : ((size : Int)).toNat = size := by omega
      rw [e] at h2
      have e2 : (List.range (1 <<< size)).map (dvF size fm size) = depF size fm := List.map_congr_left fun m hm => dv_ok ok (List.mem_range.mp hm)
      rw [e2] at h2
      exact s_ret (ev_v 1) fun H2 e3 => q c H2 hc (e0.trans e3) (e3 _ _ h2)
def chgF (size : Nat) (fm : List Nat) (t : Nat) : List V := (List.range size).map fun x => V.int ((rkF fm (t ^^^ (1 <<< x)) : Int) - (rkF fm t : Int))
def spFamLot (CF : Addr) (R : Nat → List Nat → Nat → Hp → VK → Prop) : Sp := fun vs H Q _ => ∃ (a p : Addr) (size : Nat) (fm : List Nat) (t : Nat), vs = [.ref a, .ref p] ∧ FamAt H CF a size fm ∧ FamOk size fm ∧ t < 1 <<< size ∧ LotA H p (lotF t) ∧ R size fm t H Q
end
end W7
end
section
namespace W7
open PySem PySem.Spec PyProof.Rows L2 L3 Evl
open C8 (Cal pe_c Mak pe_mk Met pe_mt pe_mt0)
section
variable {K : PySem.W.Frag} {σ : L2.St} {H : Hp} {ta tb te tl : TE} {v : V} {tt : TT}
/-- [f(r) for r in g(..) if t], the list of lots not known by name, each element a new tuple -/
theorem qe_lots {PL : List (List Nat) → Prop} {j : Nat} {vs : List Nat} (F : List Nat → Bool) (T : List Nat → List Nat) (h : ∀ Q' : VK, (∀ r rs H1 L, PL L → H r = none → Ex H H1 → H1 r = some (.lst rs) → Lots H1 rs L → Q' (.ref r) H1) → tl σ H Q') (hz : ∀ L, PL L → L.length ≤ 40000) (hw : ∀ x, wipe ((wipe σ vs).set j (some x)) vs = wipe σ vs)
    (ht : ∀ L (x : V) ns H', PL L → Ex H H' → TupV H' x ns → ns ∈ L → EvT tt ((wipe σ vs).set j (some x)) H' (F ns))
    (he : ∀ L (x : V) ns H', PL L → Ex H H' → TupV H' x ns → ns ∈ L → F ns = true → EvU te ((wipe σ vs).set j (some x)) H' (nv (T ns))) (Q : VK)
    (k : ∀ L p rs H', PL L → H p = none → Ex H H' → H' p = some (.lst rs) → Lots H' rs ((L.filter F).map T) → Q (.ref p) H') :
    tLc (iList K tl) (gName j) tt te vs σ H Q := h _ fun r rs H1 L pl hr e h1 hL => ⟨r, rfl, ⟨rs, sq_of h1⟩, fun Dl hD =>
  lc_list (xs := rs) (fun i H' => H1 Dl = none ∧ Ex H1 H' ∧ ∃ ss, H' Dl = some (.lst ss) ∧ Lots H' ss (((L.take i).filter F).map T)) ⟨hD, Ex.new hD, [], upd_same, nil_lots⟩ (fun i H' _ p => sq_of (p.2.1 _ _ h1)) (fun i x H' hi ⟨p1, p2, ss, p3, p4⟩ => ⟨hw x, by
    have hl : i < L.length := by rw [← hL.1]; exact (List.getElem?_eq_some_iff.mp hi).1
    have hn : L[i]? = some L[i] := List.getElem?_eq_some_iff.mpr ⟨hl, rfl⟩
    have htk : L.take (i + 1) = L.take i ++ [L[i]] := by rw [List.take_add_one, hn]; rfl
    have lenb : ss.length ≤ i := by
      rw [p4.1, List.length_map]
      exact Nat.le_trans (List.length_filter_le _ _) (by rw [List.length_take]; omega)
    have hzz := hz L pl
    have hmem := List.getElem_mem hl
    have htx := (hL.2 i x _ hi hn).ex p2
    generalize L[i] = ns at htk hmem htx hn
    refine ht L x ns H' pl (e.trans p2) htx hmem H' (Ex.refl _) _ fun H3 e3 => ?_
    cases hf : F ns with
    | true =>
      show te _ H3 _
      refine he L x ns H' pl (e.trans p2) htx hmem hf H3 e3 _ fun b H4 hb e4 h4 => ⟨ss, e4 _ _ (e3 _ _ p3), sz_lt (by omega), p1, Ex.mut (p2.trans (e3.trans e4)) p1, ss ++ [.ref b], upd_same, ?_⟩
      rw [htk, List.filter_append, List.map_append, List.filter_cons, if_pos hf]
      have hbD : b ≠ Dl := fun e5 => by rw [e5, e3 _ _ p3] at hb; cases hb
      refine Lots.push ⟨p4.1, fun k r ms a1 a2 => ?_⟩ ⟨b, rfl, by rw [upd_ne hbD]; exact h4⟩
      obtain ⟨t, rfl, ht2⟩ := (p4.2 k r ms a1 a2).ex (e3.trans e4)
      refine ⟨t, rfl, ?_⟩
      rw [upd_ne (fun e5 => by rw [e5, e4 _ _ (e3 _ _ p3)] at ht2; cases ht2)]
      exact ht2
    | false =>
      show _ ∧ _ ∧ _
      refine ⟨p1, p2.trans e3, ss, e3 _ _ p3, ?_⟩
      rw [htk, List.filter_append, List.map_append, List.filter_cons, if_neg (by rw [hf]; decide)]
      simpa using p4.ex e3⟩) (fun H' ⟨p1, p2, ss, p3, p4⟩ => k L Dl ss H' pl (fresh_back e p1) (e.trans p2) p3 (by rw [hL.1, List.take_length] at p4; exact p4))⟩
theorem ret_cb {r : List V → Hp → VK → Prop} {D : Ends} (h : tl σ H fun x H1 => r [x] H1 D.rt) : tRet (tCB r (tCons tl tNil)) D σ H := h
/-- sorted(..) of a list of lots at p -/
theorem sort_k {p : Addr} {rs : List V} {L : List (List Nat)} {Q : VK} (hp : H p = some (.lst rs)) (hL : Lots H rs L) (q : ∀ M : List (List Nat), M.Perm L → M.Pairwise lexLe → RetLots M H Q) : rSortLots K [.ref p] H Q := by
  obtain ⟨k, k1, k2⟩ := sortLots_at (K := K) hL
  refine ⟨p, rs, k, rfl, sq_of hp, k1, fun ys l y1 y2 hl => ?_⟩
  obtain ⟨M, m1, m2, m3⟩ := k2 ys l y1 y2 hl
  exact q M m1 m2 l ys _ hl (Ex.new hl) upd_same m3
theorem any_perm {α : Type} {xs ys : List α} (h : xs.Perm ys) (f : α → Bool) : xs.any f = ys.any f := by
  refine Bool.eq_iff_iff.mpr (Iff.trans List.any_eq_true (Iff.trans ?_ List.any_eq_true.symm))
  constructor
  · rintro ⟨x, a, b⟩; exact ⟨x, h.mem_iff.mp a, b⟩
  · rintro ⟨x, a, b⟩; exact ⟨x, h.mem_iff.mpr a, b⟩
theorem mem_lotF {b x : Nat} (hx : x < 12) : decide (x ∈ lotF b) = b.testBit x := by
  unfold lotF
  cases h : b.testBit x with
  | true => exact decide_eq_true (List.mem_filter.mpr ⟨List.mem_range.mpr hx, h⟩)
  | false => exact decide_eq_false fun h2 => by rw [(List.mem_filter.mp h2).2] at h; cases h
theorem ev_inLot {x : Nat} {b : V} {ns : List Nat} (ha : Ev ta σ H (.int (x : Nat))) (hb : Ev tb σ H b) (h : TupV H b ns) : Ev (tOp (rIn K false) ta tb) σ H (.bl (decide (x ∈ ns))) := by
  obtain ⟨t, rfl, ht⟩ := h
  have := ev_op ha hb (rv_isT (K := K) (st_of ht) (rfl : flatV (.int (x : Nat)) = true) (nv_flat ns))
  rw [inV_nat] at this
  exact this
end
def heldB (fm : List Nat) (t x : Nat) : Bool := (basesF fm t).any fun b => b.testBit x
def loopF (size : Nat) (fm : List Nat) (t : Nat) : List Nat := (List.range size).filter fun x => !heldB fm t x
theorem bases_down {size : Nat} {fm : List Nat} (ok : FamOk size fm) {t x : Nat} (ht : t < 1 <<< size) (hx : x ∈ downF size fm t) : basesF fm (t ^^^ (1 <<< x)) = ((basesF fm t).filter fun b => b.testBit x).map (· ^^^ (1 <<< x)) := by
  have hx2 := hx
  unfold downF at hx2
  rw [List.mem_filter, List.mem_range, decide_eq_true_eq] at hx2
  obtain ⟨hxs, hr⟩ := hx2
  unfold basesF
  rw [List.filter_map, List.map_map]
  have e1 : ∀ m : Nat, m ^^^ (t ^^^ (1 <<< x)) = (m ^^^ t) ^^^ (1 <<< x) := fun m => by rw [Nat.xor_assoc]
  have e2 : nearF fm (t ^^^ (1 <<< x)) = (nearF fm t).filter ((fun b => b.testBit x) ∘ fun m => m ^^^ t) := by
    unfold nearF
    rw [List.filter_filter]
    refine List.filter_congr fun m hm => ?_
    show decide (bits (m ^^^ (t ^^^ (1 <<< x))) = rkF fm (t ^^^ (1 <<< x))) = ((m ^^^ t).testBit x && decide (bits (m ^^^ t) = rkF fm t))
    rw [Bool.eq_iff_iff, Bool.and_eq_true, decide_eq_true_eq, decide_eq_true_eq, e1]
    have hm2 : ((m ^^^ t) ^^^ t) ∈ fm := by rw [back]; exact hm
    constructor
    · intro h
      have hb : (m ^^^ t) ^^^ (1 <<< x) ∈ basesF fm (t ^^^ (1 <<< x)) := List.mem_map.mpr ⟨m, List.mem_filter.mpr ⟨hm, decide_eq_true (by rw [e1]; exact h)⟩, e1 m⟩
      obtain ⟨h1, h2⟩ := base_back ok ht hxs hr hb
      rw [back] at h1 h2
      exact ⟨h2, base_rk h1⟩
    · rintro ⟨h1, h2⟩
      have hb : m ^^^ t ∈ basesF fm t := List.mem_map.mpr ⟨m, List.mem_filter.mpr ⟨hm, decide_eq_true h2⟩, rfl⟩
      exact base_rk (base_step ok ht hxs hb h1).1
  rw [e2]
  exact List.map_congr_left fun m _ => e1 m
theorem lot_less {b x : Nat} (h : b.testBit x = true) : (lotF b).filter (fun y => !decide (y = x)) = lotF (b ^^^ (1 <<< x)) := by
  unfold lotF
  rw [List.filter_filter]
  refine List.filter_congr fun y _ => ?_
  rw [tb_tog]
  by_cases e : y = x
  · subst e; simp [h]
  · have : ¬ x = y := fun z => e z.symm
    simp [e, this]
section
variable {P : Program} {w : World} {K : PySem.W.Frag} {mg : Str → Option Value} {base : Heap} {f : Addr} {fd : FuncData} {CF CA : Addr}
/-- lot_of of a row in any order -/
def spLotOfP : Sp := fun vs H Q _ => ∃ (p : Addr) (ns ms : List Nat) (size : Nat), vs = [.ref p, .int size] ∧ LotA H p ns ∧ LotOk size ns ∧ ms.Perm ns ∧ ms.Pairwise (· ≤ ·) ∧ RetU (nv ms) H Q
theorem c_lot_ofP (F : FnP K "lot_of" (top 13) f fd) (g : mg "lot_of" = some (.ref f)) (B : Bi mg) (c_is_list : Cal P w K mg base 1 "is_list" spIsList []) (c_wrong_entry : Cal P w K mg base 2 "wrong_entry" spWrong []) : Cal P w K mg base 3 "lot_of" spLotOfP [] := by
  refine mkCal F g sc_lot_of (fun _ _ _ _ _ _ us hl => match us, hl with | [_, _], _ => rfl) (fun vs H Q E h => ?_) (fun cdv A outer s H vs Q E hr h => ?_)
  · obtain ⟨i, ns, ms, size, rfl, _⟩ := h
    rfl
  · obtain ⟨p, ns, ms0, size, rfl, hp, ok, hpm, hso, q⟩ := h
    refine ⟨_, (pss_cons (ps_if (pt_not (pt_val (pe_c c_is_list hr (by decide) rfl (pa_cons (pv 0) pa_nil)))) (pss_one ps_never) pss_nil) (pss_cons (ps_set (i := 2) sc_lot_of.nd rfl (by first | exact Or.inl rfl | exact Or.inr rfl) (pe_c c_wrong_entry hr (by decide) rfl (pa_cons (pv 0) (pa_cons (pv 1) pa_nil)))) (pss_cons (ps_if (pt_cmp (pc_notN (pv 2))) (pss_one ps_never) pss_nil) (pss_one (ps_ret (pe_callTy call_tuple_of (by rfl) B.tuple (by decide +kernel) (pa_cons (pe_callB cr_sortedA (by rfl) B.sorted (by decide +kernel) (pa_cons (pv 0) pa_nil)) pa_nil))))))), ?_⟩
    refine ⟨.ref p, rfl, p, nv ns, rfl, hp, fun H1 e1 => ⟨true, rfl, ?_⟩⟩
    refine q_asg (v := .non) (ev_call (ea_cons (ev_v 0) (ea_cons (ev_v 1) ea_nil)) fun H2 e2 Q2 q2 E2 => ⟨p, ns, size, rfl, (hp.ex e1).ex e2, ok, q2⟩) fun H2 e2 => ?_
    refine ⟨.non, rfl, false, rfl, ?_⟩
    refine ⟨.ref p, rfl, p, ns.map fun n => ((n : Nat) : Int), rfl, ?_, fun is l h3 h4 hl => ?_⟩
    · have := LotA.sq (K := K) ((hp.ex e1).ex e2)
      unfold nv at this
      rw [List.map_map]
      exact this
    · obtain ⟨ms, rfl⟩ : ∃ ms : List Nat, is = ms.map fun n => ((n : Nat) : Int) := by
        refine ⟨is.map Int.toNat, ?_⟩
        rw [List.map_map]
        have : ∀ i ∈ is, ((fun n => ((n : Nat) : Int)) ∘ Int.toNat) i = id i := fun i hi => by
          obtain ⟨n, _, rfl⟩ := List.mem_map.mp (h3.mem_iff.mp hi)
          rfl
        rw [List.map_congr_left this, List.map_id]
      have h5 : ms.Perm ns := by
        have := h3.map Int.toNat
        simpa [List.map_map, Function.comp_def] using this
      have h6 : ms.Pairwise (· ≤ ·) := by
        rw [List.pairwise_map] at h4
        exact h4.imp fun h => by omega
      have := sorted_eq (h5.trans hpm.symm) h6 hso
      subst this
      refine ⟨l, nv ms, rfl, .inl ⟨sq_of ?_, fun l2 hl2 => ?_⟩⟩
      · rw [upd_same]; unfold nv; rw [List.map_map]; rfl
      · exact q l2 _ (fresh_back (e1.trans e2) (fresh_back (Ex.new hl) hl2)) ((e1.trans e2).trans ((Ex.new hl).trans (Ex.new hl2))) upd_same
def spBases (CF CA : Addr) : Sp := fun vs H Q _ => ∃ (b : Addr) (size : Nat) (fm : List Nat) (t : Nat), vs = [.ref b] ∧ AtAt H CF CA b size fm t ∧ ∀ L : List (List Nat), L.Perm ((basesF fm t).map lotF) → L.Pairwise lexLe → RetLots L H Q
def spLoops (CF CA : Addr) : Sp := fun vs H Q _ => ∃ (b : Addr) (size : Nat) (fm : List Nat) (t : Nat), vs = [.ref b] ∧ AtAt H CF CA b size fm t ∧ FamOk size fm ∧ t < 1 <<< size ∧ RetU (nv (loopF size fm t)) H Q
theorem held_down {size : Nat} {fm : List Nat} (ok : FamOk size fm) {t x : Nat} (ht : t < 1 <<< size) : x ∈ downF size fm t ↔ x < size ∧ heldB fm t x = true := by
  rw [down_mem ok ht]
  unfold heldB
  rw [List.any_eq_true]
theorem eu_loops {i : Nat} {σ : L2.St} {H : Hp} {b : Addr} {size : Nat} {fm : List Nat} {t : Nat} {E : XK} (hA : AtAt H CF CA b size fm t) (ok : FamOk size fm) (ht : t < 1 <<< size) (hi : σ[i]? = some (some (.ref b)) := by rfl) : EvU (tMeth CA "loops" (spLoops CF CA) [] E (tVar i) tNil) σ H (nv (loopF size fm t)) := fun H1 e Q q => by
  obtain ⟨a, dx, fs, bp, rs, bm, g1, g2, g3, g4, g5, g6, g7, g8, g9⟩ := id (hA.ex e)
  exact ⟨.ref b, hi, b, dx, fs, rfl, g1, g5.2.2.1, b, size, fm, t, rfl, hA.ex e, ok, ht, q⟩
def spContr (CF CA : Addr) : Sp := fun vs H Q _ => ∃ (b : Addr) (x size : Nat) (fm : List Nat) (t : Nat), vs = [.ref b, .int x] ∧ AtAt H CF CA b size fm t ∧ FamOk size fm ∧ t < 1 <<< size ∧ x ∈ downF size fm t ∧ ∀ L : List (List Nat), L.Perm ((basesF fm (t ^^^ (1 <<< x))).map lotF) → L.Pairwise lexLe → RetLots L H Q
end
end W7
end
section
namespace W7
open PySem PySem.Spec PyProof.Rows L2 L3 Evl
theorem q_asgLots {σ : L2.St} {H : Hp} {te : TE} {D : Ends} {tz : TS} {i : Nat} {L : List (List Nat)} (h : EvLots te σ H L) (k : ∀ p rs H1, H p = none → Ex H H1 → H1 p = some (.lst rs) → Lots H1 rs L → tz D (σ.set i (some (.ref p))) H1) : tSeq (tAsg te (gName i)) tz D σ H := h H (Ex.refl H) _ fun p rs H1 hp e h1 l => k p rs H1 hp e h1 l
def castL (ns : List Nat) : List Int := ns.map fun n => ((n : Nat) : Int)
theorem cast_inj {a b : List Nat} (h : castL a = castL b) : a = b := List.map_inj_right (fun a b h => by omega) |>.mp h
theorem cast_nv (ns : List Nat) : (castL ns).map V.int = nv ns := by unfold castL nv; rw [List.map_map]; rfl
/-- a list of lots, by their places -/
theorem lots_keys {H : Hp} : ∀ {rs : List V} {L : List (List Nat)}, Lots H rs L → ∃ ks : List (Addr × List Int), rs = ks.map (fun p => V.ref p.1) ∧ ks.map (·.2) = L.map castL ∧ ∀ p ∈ ks, H p.1 = some (.tup (p.2.map V.int))
  | [], [], _ => ⟨[], rfl, rfl, fun p h => by cases h⟩
  | [], _ :: _, h => by have := h.1; simp at this
  | _ :: _, [], h => by have := h.1; simp at this
  | r :: rs, ns :: L, h => by
    obtain ⟨t, rfl, ht⟩ := h.2 0 r ns rfl rfl
    obtain ⟨ks, e1, e2, e3⟩ := lots_keys (rs := rs) (L := L) ⟨by have := h.1; simpa using this, fun i r ns a b => h.2 (i + 1) r ns a b⟩
    refine ⟨(t, castL ns) :: ks, by rw [e1]; rfl, by rw [List.map_cons, List.map_cons, e2], fun p hp => ?_⟩
    obtain rfl | hp := List.mem_cons.mp hp
    · rw [ht, cast_nv]
    · exact e3 p hp
theorem keys_nats {Lc : List (List Nat)} : ∀ {L' : List (Addr × List Int)}, (∀ p ∈ L', p.2 ∈ Lc.map castL) → ∃ M : List (List Nat), L'.map (·.2) = M.map castL ∧ ∀ l ∈ M, l ∈ Lc
  | [], _ => ⟨[], rfl, fun l h => by cases h⟩
  | p :: L', h => by
    obtain ⟨M, e1, e2⟩ := keys_nats (Lc := Lc) (L' := L') fun q hq => h q (List.mem_cons_of_mem _ hq)
    obtain ⟨ns, hn, e⟩ := List.mem_map.mp (h p List.mem_cons_self)
    refine ⟨ns :: M, by rw [List.map_cons, List.map_cons, e1, e], fun l hl => ?_⟩
    rcases List.mem_cons.mp hl with rfl | hl
    · exact hn
    · exact e2 l hl
theorem lots_from {H : Hp} : ∀ {L' : List (Addr × List Int)} {M : List (List Nat)}, L'.map (·.2) = M.map castL → (∀ p ∈ L', H p.1 = some (.tup (p.2.map V.int))) → Lots H (L'.map fun p => V.ref p.1) M
  | [], [], _, _ => nil_lots
  | [], q :: qs, h, _ => by simp at h
  | q :: qs, [], h, _ => by simp at h
  | p :: L', ns :: M, h, ht => by
    rw [List.map_cons, List.map_cons, List.cons.injEq] at h
    have ih := lots_from h.2 fun q hq => ht q (List.mem_cons_of_mem _ hq)
    refine ⟨by simpa using ih.1, fun i r ms a b => ?_⟩
    cases i with
    | zero =>
      simp at a b
      subst a b
      refine ⟨p.1, rfl, ?_⟩
      rw [ht p List.mem_cons_self, h.1, cast_nv]
    | succ i => exact ih.2 i r ms (by simpa using a) (by simpa using b)
def RetSet (Lc : List (List Nat)) (H : Hp) (Q : VK) : Prop := ∀ (M : List (List Nat)), M.Nodup → M.Pairwise lexLe → (∀ l, l ∈ M ↔ l ∈ Lc) → ∀ r rs H', H r = none → Ex H H' → H' r = some (.lst rs) → Lots H' rs M → Q (.ref r) H'
/-- sorted(set(x)), x a list of lots -/
theorem lots_set {K : PySem.W.Frag} {P : Program} {w : World} {σ : L2.St} {H : Hp} {Q : VK} {l : Addr} {rs : List V} {L : List (List Nat)} {i : Nat} (hl : H l = some (.lst rs)) (hL : Lots H rs L) (h64 : L.length < 64) (q : RetSet L H Q) (hi : σ[i]? = some (some (.ref l)) := by rfl) :
    tCB (rSortSetL K P w) (tCons (tCB (rSetOfT K P w) (tCons (tVar i) tNil)) tNil) σ H Q := by
  obtain ⟨ks, e1, e2, e3⟩ := lots_keys hL
  subst e1
  have hkl : ks.length = L.length := by have := congrArg List.length e2; simpa using this
  refine ⟨.ref l, hi, l, ks, rfl, sq_of hl, fun p hp => st_of (e3 p hp), by omega, fun a S ha hsub hall => ?_⟩
  have eA := Ex.new (o := SetTO P w a S) ha
  have tA : ∀ p ∈ ks, upd H a (SetTO P w a S) p.1 = some (.tup (p.2.map V.int)) := fun p hp => eA _ _ (e3 p hp)
  have sA : upd H a (SetTO P w a S) a = some (SetTO P w a S) := upd_same
  generalize upd H a (SetTO P w a S) = HA at eA tA sA
  refine ⟨a, S, rfl, sA, fun p hp => st_of (tA p (hsub p hp)), fun S' p pm nd len pw hn => ?_⟩
  have e4 := Ex.new (o := .lst (S'.map fun q => V.ref q.1)) hn
  have h4 : upd HA p (.lst (S'.map fun q => V.ref q.1)) p = some (.lst (S'.map fun q => V.ref q.1)) := upd_same
  have t4 : ∀ q ∈ S', upd HA p (.lst (S'.map fun q => V.ref q.1)) q.1 = some (.tup (q.2.map V.int)) := fun q hq => e4 _ _ (tA q (hsub q (pm.mem_iff.mp hq)))
  generalize upd HA p (.lst (S'.map fun q => V.ref q.1)) = H4 at e4 h4 t4
  obtain ⟨M, m1, m2⟩ := keys_nats (Lc := L) (L' := S') fun q hq => by
    rw [← e2]
    exact List.mem_map.mpr ⟨q, hsub q (pm.mem_iff.mp hq), rfl⟩
  refine q M ?_ ?_ (fun z => ⟨m2 z, fun hz => ?_⟩) p _ _ (fresh_back eA hn) (eA.trans e4) h4 (lots_from m1 t4)
  · rw [m1] at nd
    exact nd.of_map _ (fun a b h e => h (by rw [e]))
  · have := List.pairwise_map.mpr pw
    rw [m1, List.pairwise_map] at this
    exact this
  · have h1 : castL z ∈ ks.map (·.2) := by rw [e2]; exact List.mem_map.mpr ⟨z, hz, rfl⟩
    obtain ⟨k, hk, ek⟩ := List.mem_map.mp h1
    have h2 := hall k hk
    rw [ek] at h2
    have h3 : castL z ∈ S'.map (·.2) := (pm.map (·.2)).mem_iff.mpr h2
    rw [m1] at h3
    obtain ⟨y, hy, ey⟩ := List.mem_map.mp h3
    rw [← cast_inj ey]
    exact hy
end W7
end
section
namespace L3
open PySem PySem.Spec PyProof.Rows PyProof.V PySem.Calls L2
section
variable {P : Program} {w : World} {A : Around} {s : Shared} {E : Value → Shared → Prop}
open PySem.Builtin.Frozenset in
/-- set(l), l a list of ints -/
theorem call_set_listI {l : Addr} {items : Array Value} (ns : List Int) {Q : Value → Shared → Prop} (hh : A.handled = none) (hl : s.heap.IsList l items) (hit : IntsAre items.toList ns) (hb : ns.length + 1 < scanBound)
    (h : ∀ (h' : Heap) (tk c : Nat),
      SetR w h' s.heap.objs.size (fun j => decide (j ∈ ns)) c → c ≤ ns.length → (∀ b o, s.heap.get? b = some o → h'.get? b = some o) → Q (.ref s.heap.objs.size) { s with heap := h', toks := tk }) :
    wpAny (model P w) A (call (.type "set") ([.ref l])) Q E s := by
  obtain ⟨N, hN⟩ : ∃ N, N = s.heap.objs.size := ⟨_, rfl⟩
  obtain ⟨fresh, hF⟩ : ∃ o : Obj, o = { cls := .type "set", dict := none, data := .set #[] 0 (.fresh 0 0 (!w.params.followText "set-order")) } := ⟨_, rfl⟩
  have there : (s.heap.push fresh).get? N = some fresh := by rw [hN]; exact Heap.get?_push_size s.heap (by rw [hF]; rfl)
  obtain ⟨ol, l1, l2, nl, l3⟩ := hl
  have l_old := Heap.get?_push_of_some fresh l1
  have old : ∀ b o, s.heap.get? b = some o → (s.heap.push fresh).get? b = some o := fun b o e => Heap.get?_push_of_some fresh e
  have ft := PySem.F.called_set
  apply wpAny_call
  apply codeAny_of_tree
  show wpAny (model P w) _ (callAny (.type "set") ⟨[.ref l], []⟩) _ _ s
  refine wpAny_pure ⟨by kernel_rfl, codeAny_builtin (id := "type.__call__") (b := Builtin.«type.__call__») (by kernel_rfl) ?_⟩
  unfold Builtin.«type.__call__»; dsimp only
  rw [if_neg (by decide)]
  obtain ⟨c, tl, mro⟩ := ft.mro
  rw [if_neg (by rw [ft.canCreate]; decide), PySem.F.typeCall_set_1, mro, ft.made]
  refine wpAny_bind (wpAny_pure (wpAny_bind (m := pure _) (wpAny_pure ?_)))
  rw [List.isEmpty_cons, if_neg Bool.false_ne_true]
  refine wpAny_bind (wpAny_pure (wpAny_bind (wpAny_pure (wpAny_bind (wpAny_holding ?_)))))
  have none_yet : SetR w (s.heap.push fresh) N (fun _ => false) 0 := by
    rw [hN, hF]; exact setR_fresh w
  have set_type : ({ s with heap := s.heap.push fresh } : Shared).TypeIs (.ref N) "set" := ⟨fresh, there, by rw [hF]⟩
  have list_type : ({ s with heap := s.heap.push fresh } : Shared).TypeIs (.ref l) "list" := ⟨ol, l_old, l2⟩
  have name : ∀ (A : Around) (E' : Value → Shared → Prop) (Q' : String → Shared → Prop), Q' "set" { s with heap := s.heap.push fresh } → wpAny (model P w) A (typeNameOfCut 200 (.ref N)) Q' E' { s with heap := s.heap.push fresh } := by
    intro A' E' Q' q
    unfold typeNameOfCut; unfold shownTypeOf
    refine wpAny_bind (wpAny_bind (wpAny_typeOf set_type ?_))
    rw [if_neg (by decide)]
    exact wpAny_pure (wpAny_pure q)
  have empty : fresh.data = .set #[] 0 (.fresh 0 0 (!w.params.followText "set-order")) := by rw [hF]
  have fit : (SetTable.fresh 0 0 (!w.params.followText "set-order")).fits (#[] : Array (Int × Value)).size = true := rfl
  have unused : ∀ (A : Around) (E' : Value → Shared → Prop) (Q' : Bool → Shared → Prop), Q' false { s with heap := s.heap.push fresh } → wpAny (model P w) A (setUsed N) Q' E' { s with heap := s.heap.push fresh } := by
    intro A' E' Q' q
    unfold setUsed
    exact wpAny_bind (wpAny_setState_of there empty fit (wpAny_pure q))
  have no_set : ∀ (A : Around) (E' : Value → Shared → Prop) (Q' : Bool → Shared → Prop), Q' false { s with heap := s.heap.push fresh } → wpAny (model P w) A (isAnySet (.ref l)) Q' E' { s with heap := s.heap.push fresh } := by
    intro A' E' Q' q
    unfold isAnySet orM
    exact wpAny_bind (wpAny_isInstance (U := "set") (b := false) list_type (by kernel_rfl) (wpAny_isInstance (U := "frozenset") (b := false) list_type (by kernel_rfl) q))
  refine wpAny_call (codeAny_mono (code_set_led1 (E := fun _ _ => False) (.ref l) (Q₁ := fun obj s1 => obj = .ref N ∧ s1 = { s with heap := s.heap.push fresh }) ⟨by rw [hN], by rw [hF]⟩) fun r s1 z => ?_)
  match r, z with
  | .ok (.ret v), z =>
    obtain ⟨rfl, rfl⟩ := z
    refine wpAny_bind (wpAny_isInstance set_type ft.sub ?_)
    rw [if_neg (by decide)]
    refine wpAny_bind (wpAny_holding (wpAny_callSpecial?_slot set_type PySem.F.slot_set_init (wpAny_call (codeAny_of_tree ?_))))
    show wpAny (model P w) _ (callAny (.builtin "set.__init__") ⟨[.ref N, .ref l], []⟩) _ _ _
    refine wpAny_bind (PySem.check_set_init_1 set_type (wpAny_pure ⟨by kernel_rfl, codeAny_builtin PySem.F.entry_set_init ?_⟩))
    unfold Builtin.«set.__init__»
    apply wpAny_bind (wpAny_pure _)
    dsimp only
    refine wpAny_bind (name _ _ _ (wpAny_bind (wpAny_pure (wpAny_bind (wpAny_pure (wpAny_bind (unused _ _ _ ?_)))))))
    rw [if_neg (by decide)]
    unfold updateFrom
    refine wpAny_bind ?_
    refine wpAny_bind (no_set _ _ _ ?_)
    rw [if_neg (by decide)]
    refine wpAny_bind (wpAny_typeOf list_type ?_)
    rw [if_neg (by decide)]
    refine wpAny_bind (wpAny_pyIter_list ⟨ol, l_old, l2, nl, l3⟩ ?_)
    have many : items.size = ns.length := by
      rw [← Array.length_toList]; exact hit.length
    have it_at : (s.heap.push fresh).objs.size ≠ l ∧ (s.heap.push fresh).objs.size ≠ N := ⟨Nat.ne_of_gt (Heap.lt_size l_old), Nat.ne_of_gt (Heap.lt_size there)⟩
    have lN : l ≠ N := hN ▸ Nat.ne_of_lt (Heap.lt_size l1)
    have out_of_reach : N ∉ [(s.heap.push fresh).objs.size, l] := fun z => (List.mem_cons.mp z).elim (fun e => it_at.2 e.symm) fun e => lN (List.mem_singleton.mp e).symm
    have W := (Walks.list (prog := P) (w := w) (A := ((A.under (.builtin "type.__call__" ⟨[.type "set", .ref l], []⟩)).under (.builtin "set.__init__" ⟨[.ref N, .ref l], []⟩)).in1) hh (s.heap.push fresh).objs.size l it_at.1.symm items).toS
    refine wpAny_bind (wpAny_runValue (set_update_ints W N out_of_reach ns many hb (fun i v z => ?_) items.size 0 _ (Nat.sub_zero _) (Nat.zero_le _) ⟨⟨_, Heap.get?_push_size _ rfl, rfl, rfl⟩, ol, Heap.get?_push_of_some _ l_old, l2, nl, l3⟩ ⟨0, Nat.le_refl 0, (none_yet.at fun o e => Heap.get?_push_of_some _ e).congr fun j => by simp⟩ fun s' c moved le R => ?_))
    · have low : i < ns.length := many ▸ (Array.getElem?_eq_some_iff.mp z).1
      have told : (ns.map V.int)[i]? = some (.int ns[i]) := by rw [List.getElem?_map, List.getElem?_eq_getElem low]; rfl
      obtain ⟨u, at_i, k, is⟩ := (vals_of_ints hit).get told
      rw [Array.getElem?_toList, z] at at_i
      exact ⟨_, k, List.getElem?_eq_getElem low, (Option.some.inj at_i).trans is⟩
    · have shape : s' = { s with heap := s'.heap, toks := s'.toks } := by
        obtain ⟨h1, g1, d1, n1, o1⟩ := s'
        have g := moved.gens
        have d := moved.drawn
        have o := moved.os
        dsimp only at g d o
        subst g d o
        rfl
      have keep : ∀ b o, s.heap.get? b = some o → s'.heap.get? b = some o := fun b o e => by
        refine moved.heap b o ?_ (Heap.get?_push_of_some _ (old b o e))
        intro z
        have low := Heap.lt_size e
        obtain z | z := List.mem_cons.mp z
        · exact absurd low (by rw [z, hN]; exact Nat.lt_irrefl _)
        · refine absurd low ?_
          rw [List.mem_singleton.mp z]
          simp [Heap.push]
      rw [hN] at R
      have q := h s'.heap s'.toks c R (many ▸ le) keep
      rw [← hN, ← shape] at q
      apply wpAny_pure; apply wpAny_pure
      show wpAny (model P w) _ (if (Value.none != Value.none) = true then _ else _) _ _ s'
      rw [if_neg (by decide)]
      exact wpAny_pure q
end
section
variable {X : Cx}
def rSetOfL (K : PySem.W.Frag) (w : World) : List V → Hp → VK → Prop := fun vs H Q => ∃ (l : Addr) (ns : List Int), vs = [.ref l] ∧ SqL K H l (ns.map V.int) ∧ ns.length ≤ 1000 ∧ ∀ (p : Addr) (c : Nat), H p = none → c ≤ ns.length → Q (.ref p) (upd H p (SetO w p (fun j => decide (j ∈ ns)) c))
theorem cr_setOfL (hc : X.calm = true) : CallR X (.type "set") (rSetOfL X.K X.w) := by
  rintro pins s σ H _ us Q I r ⟨l, ns, rfl, sq, few, q⟩
  obtain ⟨its, rv, pl, _⟩ := I.list sq
  rw [Vals.ref1 r]
  have small : ns.length + 1 < scanBound := Nat.lt_of_le_of_lt (Nat.succ_le_succ few) (by decide)
  exact call_set_listI ns (I.ok.hd hc) pl.isList (ints_of_vals rv) small fun h' n c R le keep => set_came (d := s.drawn) I keep (Nat.le_refl _) R fun free => q _ _ free le
end
end L3
end
section
namespace W7
open PySem PySem.Spec PyProof.Rows L2 L3 Evl
section
variable {X : Cx} {K : PySem.W.Frag} {w : World}
theorem op_catAK (hK : X.K = K) : OpR X (binaryOp .Add) (rCatA K) := hK ▸ op_catA
theorem pi_enumAK {e : Expr} {ta : TA} {p pos tpos : Pos} {elts : List Expr} {kk : Nat} (hK : X.K = K) (hg : Gl X "enumerate") (hm : X.mg "enumerate" = none) (ha : PA X [e] ta) (hs : starEach [e] X.env = [(false, eval e X.env)] := by rfl) : PI X (.Tuple elts kk tpos) (.Call (.Name "enumerate" p) [e] [] pos) (iEnumA K ta) := hK ▸ pi_enumA hg hm ha hs
theorem cr_sumK (hK : X.K = K) (hc : X.calm = true) : CallR X (.builtin "sum") (rSum K) := hK ▸ cr_sum hc
theorem cr_allK (hK : X.K = K) (hc : X.calm = true) : CallR X (.builtin "all") (rAll K) := hK ▸ cr_all hc
/-- sorted(s), a set of ints told by a list -/
def rSortedSetL (w : World) : List V → Hp → VK → Prop := fun vs H Q => ∃ (a : Addr) (S : Int → Bool) (n : Nat) (L : List Int), vs = [.ref a] ∧ H a = some (SetO w a S n) ∧ L.Nodup ∧ (∀ k, S k = true ↔ k ∈ L) ∧ L.length < 64 ∧ ∀ (ns : List Int) (p : Addr), ns.Pairwise (· < ·) → (∀ k : Int, k ∈ ns ↔ S k = true) → H p = none → Q (.ref p) (upd H p (.lst (ns.map V.int)))
theorem cr_sortedSetL (hc : X.calm = true) : CallR X (.builtin "sorted") (rSortedSetL X.w) := by
  intro pins s σ H vs us Q I r ⟨a, S, n, L, e, at_a, nd, mem, few, q⟩
  have many := SetR.card (setO_get I at_a) nd mem
  exact cr_sortedSet hc pins s σ H vs us Q I r ⟨a, S, n, e, at_a, by omega, fun ns p h1 h2 _ h3 => q ns p h1 h2 h3⟩
theorem cr_sortedSetLK (hK : X.K = K) (hw : X.w = w) (hc : X.calm = true) : CallR X (.builtin "sorted") (rSortedSetL w) := hw ▸ cr_sortedSetL hc
theorem cr_setOfLK (hK : X.K = K) (hw : X.w = w) (hc : X.calm = true) : CallR X (.type "set") (rSetOfL K w) := hK ▸ hw ▸ cr_setOfL hc
theorem cr_sortedSetK (hK : X.K = K) (hw : X.w = w) (hc : X.calm = true) : CallR X (.builtin "sorted") (rSortedSet w) := hw ▸ cr_sortedSet hc
end
section
variable {K : PySem.W.Frag} {σ : L2.St} {H : Hp} {te tl : TE} {tu tz : TS} {D : Ends}
theorem ev_allL {bs : List Bool} (h : EvL te σ H (bv bs)) : Ev (tCB (rAll K) (tCons te tNil)) σ H (.bl (bs.all id)) := fun H1 e Q q => h H1 e _ fun p H2 hp e2 h2 => ⟨p, bs, rfl, sq_of h2, q H2 e2⟩
theorem el_is {xs ys : List V} (h : EvL te σ H xs) (e : xs = ys) : EvL te σ H ys := e ▸ h
theorem eu_is {xs ys : List V} (h : EvU te σ H xs) (e : xs = ys) : EvU te σ H ys := e ▸ h
/-- for x in a new list of naturals -/
theorem s_forLC {ns : List Nat} {j : Nat} (h : EvL tl σ H (nv ns)) (Pv : Hp → Nat → L2.St → Hp → Prop) (h0 : ∀ H1, Ex H H1 → Pv H1 0 σ H1) (he : ∀ H1 i σ' H', Pv H1 i σ' H' → Ex H1 H')
    (hs : ∀ H1, Ex H H1 → ∀ i (n : Nat) σ' H', ns[i]? = some n → Pv H1 i σ' H' → tu { D with nx := Pv H1 (i + 1), ct := Pv H1 (i + 1), bk := D.nx } (σ'.set j (some (.int (n : Nat)))) H') (hd : ∀ H1, Ex H H1 → ∀ σ' H', Pv H1 ns.length σ' H' → D.nx σ' H') : tFor (iList K tl) (gName j) tu D σ H :=
  h H (Ex.refl H) _ fun p H1 hp e1 h1 => ⟨p, rfl, ⟨_, sq_of h1⟩, for_list (xs := nv ns) (fun i σ' H' => Pv H1 i σ' H') (h0 H1 e1) (fun i σ' H' _ q => sq_of (he H1 i σ' H' q _ _ h1)) (fun i x σ' H' hi q => by
    obtain ⟨n, hn, rfl⟩ := nv_get hi
    exact hs H1 e1 i n σ' H' hn q) (by rw [nv_len]; exact hd H1 e1)⟩
theorem q_forLC {ns : List Nat} {j : Nat} (h : EvL tl σ H (nv ns)) (Pv : Hp → Nat → L2.St → Hp → Prop) (h0 : ∀ H1, Ex H H1 → Pv H1 0 σ H1) (he : ∀ H1 i σ' H', Pv H1 i σ' H' → Ex H1 H')
    (hs : ∀ H1, Ex H H1 → ∀ i (n : Nat) σ' H', ns[i]? = some n → Pv H1 i σ' H' → tu { D with nx := Pv H1 (i + 1), ct := Pv H1 (i + 1), bk := tz D } (σ'.set j (some (.int (n : Nat)))) H') (hd : ∀ H1, Ex H H1 → ∀ σ' H', Pv H1 ns.length σ' H' → tz D σ' H') : tSeq (tFor (iList K tl) (gName j) tu) tz D σ H :=
  s_forLC (D := { D with nx := tz D }) h Pv h0 he hs hd
/-- x, y = [..], [..] -/
theorem q_parL {ta tb : TE} {i j : Nat} {xs ys : List V} (ha : EvL ta σ H xs) (hb : ∀ H1, Ex H H1 → EvL tb σ H1 ys) (k : ∀ p r H1, H p = none → H r = none → Ex H H1 → H1 p = some (.lst xs) → H1 r = some (.lst ys) → tz D ((σ.set i (some (.ref p))).set j (some (.ref r))) H1) : tSeq (tPar i j (tCons ta (tCons tb tNil))) tz D σ H :=
  ha H (Ex.refl H) _ fun p H1 hp e1 h1 => hb H1 e1 H1 (Ex.refl H1) _ fun r H2 hr e2 h2 => ⟨.ref p, .ref r, rfl, k p r H2 hp (fresh_back e1 hr) (e1.trans e2) (e2 _ _ h1) h2⟩
/-- the same, by a tuple -/
theorem q_tupL {ta tb : TE} {i j : Nat} {xs ys : List V} (ha : EvL ta σ H xs) (hb : ∀ H1, Ex H H1 → EvL tb σ H1 ys) (k : ∀ p r H1, H p = none → H r = none → Ex H H1 → H1 p = some (.lst xs) → H1 r = some (.lst ys) → tz D ((σ.set i (some (.ref p))).set j (some (.ref r))) H1) : tSeq (tAsg (tTup (tCons ta (tCons tb tNil))) (gTup K 2 (gCons (gName i) (gCons (gName j) gNil)))) tz D σ H :=
  ha H (Ex.refl H) _ fun p H1 hp e1 h1 => hb H1 e1 H1 (Ex.refl H1) _ fun r H2 hr e2 h2 => ⟨sz_of (by show 2 ≤ 100000; decide), fun t ht => by
    have e3 := Ex.new (o := .tup [.ref p, .ref r]) ht
    exact ⟨t, [.ref p, .ref r], rfl, st_of upd_same, rfl, .ref p, [.ref r], rfl, .ref r, [], rfl, rfl, k p r _ hp (fresh_back e1 hr) (e1.trans (e2.trans e3)) (e3 _ _ (e2 _ _ h1)) (e3 _ _ h2)⟩⟩
theorem dp_eqN : ∀ ns ms : List Nat, PyData.eqvAll ((ns.map fun n => ((n : Nat) : Int)).map PyData.int) ((ms.map fun n => ((n : Nat) : Int)).map PyData.int) = decide (ns = ms)
  | [], [] => rfl
  | [], m :: ms => by simp [PyData.eqvAll]
  | n :: ns, [] => by simp [PyData.eqvAll]
  | n :: ns, m :: ms => by
    have := dp_eqN ns ms
    simp only [List.map_cons, PyData.eqvAll, PyData.eqv, this]
    rw [Bool.eq_iff_iff]
    simp [Int.ofNat_inj]
/-- [..] == [..], of naturals -/
theorem ev_eqN {ta tb : TE} {p r : Addr} {ns ms : List Nat} (ha : Ev ta σ H (.ref p)) (hb : Ev tb σ H (.ref r)) (h1 : SqL K H p (nv ns)) (h2 : SqL K H r (nv ms)) : Ev (tOp (rEqD K) ta tb) σ H (.bl (decide (ns = ms))) := ev_op ha hb fun H1 e Q q => by
  refine ⟨.list _, .list _, .lst (ex_l e h1) (dp_nats ns), .lst (ex_l e h2) (dp_nats ms), PySem.W.shaped_ints _, PySem.W.shaped_ints _, ?_⟩
  have := dp_eqN ns ms
  rw [show PyData.eqv (.list ((ns.map fun n => ((n : Nat) : Int)).map PyData.int)) (.list ((ms.map fun n => ((n : Nat) : Int)).map PyData.int)) = decide (ns = ms) from this]
  exact q H1 (Ex.refl H1)
end
end W7
end
section
namespace L3
open PySem PySem.Spec PyProof.Rows PyProof.V PySem.Calls L2
section
variable {prog : Program} {w : World} {A : Around} {s : Shared} {K : Type} [DecidableEq K] {knd : HeapKind prog w K} {E : Value → Shared → Prop}
/-- two dicts of one size of which each row of the first stands in the second -/
theorem samePairs_at {id : String} {a b : Addr} {ka kb : List (K × Addr × Value)} {Q : Bool → Shared → Prop} (ha : (a == sysModules) = false) (hb : (b == sysModules) = false) (da : s.heap.DictOfH knd a ka) (db : s.heap.DictOfH knd b kb) (room : knd.room A) (len : ka.length = kb.length)
    (hits : ∀ p ∈ ka, ∃ q, atKey kb p.1 = some q ∧ SeqAt.EqAt A s p.2.2 q.2 true) (h : Q true s) : wpAny (model prog w) A (Builtin.Dict.samePairs id a b) Q E s := by
  obtain ⟨oa, ea, pa, a1, a2, a3, a4, a5, a6⟩ := da
  obtain ⟨ob, eb, pb, b1, b2, b3, b4, b5, b6⟩ := db
  have na : ea.size = ka.length := by rw [← Array.length_toList, a4, List.length_map]
  have nb : eb.size = kb.length := by rw [← Array.length_toList, b4, List.length_map]
  unfold Builtin.Dict.samePairs; unfold Builtin.Dict.showsAll
  rw [ha, hb]
  refine wpAny_bind (wpAny_pure (wpAny_bind (wpAny_pure (wpAny_bind (wpAny_dictEntries a1 a3 (wpAny_bind (wpAny_dictEntries b1 b3 ?_)))))))
  rw [if_neg (by rw [na, nb, len, bne_self_eq_false]; exact Bool.false_ne_true)]
  refine wpAny_bind (wpAny_dictEpoch a1 a3 (wpAny_bind ?_))
  have row : ∀ {xs : List (K × Addr × Value)} {es : Array DictEntry} {i : Nat} {x : K × Addr × Value}, es.toList = xs.map (entryOfKey knd) → xs[i]? = some x → es[i]? = some (entryOfKey knd x) := by
    intro xs es i x e g
    rw [← Array.getElem?_toList, e, List.getElem?_map, g]
    rfl
  refine SeqAt.wpAny_forIn_span 0 ea.size _ (fun _ c s' => c = (none, ()) ∧ s' = s) _ ?_ ?_ _ ⟨rfl, rfl⟩
  · rintro i c s' _ low ⟨rfl, rfl⟩
    obtain ⟨x, gx⟩ : ∃ x, ka[i]? = some x := ⟨_, List.getElem?_eq_getElem (na ▸ low)⟩
    obtain ⟨q, hq, same⟩ := hits x (List.mem_of_getElem? gx)
    refine wpAny_bind (wpAny_dictEntries a1 a3 ?_)
    rw [row a4 gx]
    dsimp only [entryOfKey]
    refine wpAny_bind (wpAny_holding (wpAny_bind (wpAny_dictFind_heap (k := x.1) room (a5 x (List.mem_of_getElem? gx)) b1 b3 b4 b5 b6 (fun none_there => ?_) fun j p gj => ?_)))
    · exact absurd (atKey_none_of_get none_there) (by rw [hq]; exact fun z => by cases z)
    · obtain rfl : p = q := Option.some.inj ((atKey_of_get b6 gj).symm.trans hq)
      refine wpAny_bind (wpAny_dictEntries b1 b3 ?_)
      rw [row b4 gj]
      refine wpAny_holding (same prog w _ _ ?_)
      rw [if_neg (by decide)]
      refine wpAny_bind (wpAny_dictEpoch a1 a3 ?_)
      rw [if_neg (by rw [bne_self_eq_false]; decide)]
      exact wpAny_pure ⟨rfl, rfl⟩
  · rintro c s' ⟨rfl, rfl⟩
    exact wpAny_pure h
theorem eq_dictT {a b : Addr} {ka kb : List (K × Addr × Value)} {Q : Value → Shared → Prop} (ha : (a == sysModules) = false) (hb : (b == sysModules) = false)
    (da : s.heap.DictOfH knd a ka) (db : s.heap.DictOfH knd b kb) (hu : A.units < cLine) (hu1 : knd.room A.in1) (hlen : ka.length = kb.length)
    (hits : ∀ p ∈ ka, ∃ q, atKey kb p.1 = some q ∧ SeqAt.EqAt A.in1 s p.2.2 q.2 true) (h : Q (.bool true) s) : wpAny (model prog w) A (compareOp .Eq (.ref a) (.ref b)) Q E s := by
  have dict_type : ∀ {d : Addr} {xs : List (K × Addr × Value)}, s.heap.DictOfH knd d xs → s.TypeIs (.ref d) "dict" := fun x => by
    obtain ⟨o, _, _, there, ex, _⟩ := x
    exact ⟨o, there, ex.1⟩
  have body : wpAny (model prog w) A.in1 (Builtin.«dict.__eq__» ⟨[.ref a, .ref b], []⟩) (fun fin s' => ∃ v, fin = .done (.ret v) ∧ v ≠ .notImplemented ∧ Q v s') E s := by
    obtain ⟨i1, i2, form⟩ : ∃ i1 i2 : String, Builtin.«dict.__eq__» ⟨[.ref a, .ref b], []⟩ = (do
        if !(← isInstance (.ref b) (.type "dict")) then rule i1; return ← ret .notImplemented
        ret (.bool ((← Builtin.Dict.samePairs i2 a b) == true))) := ⟨"dict." ++ "__eq__" ++ ".not-a-dict", "dict." ++ "__eq__", by kernel_rfl⟩
    rw [form]
    refine wpAny_bind (wpAny_isInstance (dict_type db) (b := true) (by kernel_rfl) ?_)
    rw [if_neg (by decide)]
    exact wpAny_bind (samePairs_at ha hb da db hu1 hlen hits (wpAny_pure ⟨_, rfl, Value.noConfusion, h⟩))
  refine wpAny_richCompare_same_or (op := .Eq) (dict_type da) (dict_type db) PySem.F.slot_dict_eq ?_ (Or.inr hu)
  exact wpAny_call_entry PySem.F.slot_dict_eq (dict_type da) PySem.F.entry_dict_eq body (PySem.F.args_dict_eq_2 _ _)
end
section
variable {X : Cx}
theorem kt_mem {H : Hp} {kvs : List (List Key × V)} {xs : List (List Key × Addr × Value)} (r : KT H kvs xs) : ∀ p ∈ xs, ∃ q ∈ kvs, q.1 = p.1 ∧ RelV q.2 p.2.2 := by
  induction r with
  | nil => intro p hp; exact nomatch hp
  | @cons p q ps qs h t ih =>
    intro x hx
    obtain e | hx := List.mem_cons.mp hx
    · subst e
      exact ⟨p, List.mem_cons_self, h.1, h.2.2⟩
    · obtain ⟨q', h1, h2⟩ := ih x hx
      exact ⟨q', List.mem_cons_of_mem _ h1, h2⟩
/-- == of two dicts with tuple keys that tell the same -/
def rEqDT : R2 := fun x y H Q => ∃ a b ks ls, x = .ref a ∧ y = .ref b ∧ H a = some (.dT ks) ∧ H b = some (.dT ls) ∧ ks.length = ls.length ∧ (∀ p ∈ ks, valV ls p.1 = some p.2 ∧ flatB p.2 = true) ∧ Q (.bl true) H
theorem op_eq_dictT (hu : X.A.units + 64 < cLine) : OpR X (compareOp .Eq) rEqDT := by
  rintro pins s σ H _ _ v u Q I rx ry ⟨a, b, ks, ls, rfl, rfl, at_a, at_b, len, all, q⟩
  rw [show v = .ref a from rx, show u = .ref b from ry]
  obtain ⟨_, sa, xa, pa, da⟩ := dt_of I.hok at_a
  obtain ⟨_, sb, xb, pb, db⟩ := dt_of I.hok at_b
  have few : X.A.units < cLine := by omega
  refine eq_dictT sa sb da db few ?_ (by rw [← pa.length, ← pb.length, len]) (fun p hp => ?_) ⟨.bl true, H, I, rfl, q⟩
  · show X.A.units + 1 < cLine
    omega
  · obtain ⟨r, hr, same_key, rv⟩ := kt_mem pa p hp
    obtain ⟨there, flat⟩ := all r hr
    have told := pb.val r.1
    rw [there, same_key] at told
    cases there2 : atKey xb p.1 with
    | none =>
      rw [there2] at told
      exact told.elim
    | some w =>
      rw [there2] at told
      exact ⟨w, rfl, eqAt_same rv told flat⟩
end
end L3
end
section
namespace W7
open PySem PySem.Spec PyProof.Rows L2 L3 Evl
open C8 (Cal pe_c Mak pe_mk Met pe_mt pe_mt0)
/-- a def that may be called by its name, n values and keywords -/
structure CalK (P : Program) (w : World) (K : PySem.W.Frag) (mg : Str → Option Value) (base : Heap) (k : Nat) (x : Str) (sp : Sp) (n : Nat) (ks : List Str) (gV : List V → List V → List V) : Prop where
  ex : ∃ (f : Addr) (fd : FuncData) (ps : List Str) (g : List Value → List Value → List Value), FnOk P w K mg base CX0 k f fd ps sp ∧ mg x = some (.ref f) ∧ PySem.W.keepIn K (.ref f) = true ∧ KBn K fd ps n ks g gV
section
variable {X : Cx} {k j n : Nat} {x : Str} {sp : Sp} {p pos : Pos} {e : Expr} {es : List Expr} {kws : List Keyword} {t tk : TA} {ks : List Str} {gV : List V → List V → List V}
/-- a call with one or more places, and keywords -/
theorem pe_ck (c : CalK X.prog X.w X.K X.mg X.base k x sp n ks gV) (hr : Room j X.A) (hk : k ≤ j) (hg : Gl X x) (ha : PA X (e :: es) t) (hkw : PK X kws tk) (named : (backToKw pos (keywordEach kws X.env)).all (·.1.isSome) = true := by rfl)
    (names : (backToKw pos (keywordEach kws X.env)).filterMap (·.1) = ks := by rfl) (dbg : (x == ("__debug__" : Str)) = false := by decide) (each : starEach (e :: es) X.env = (false, eval e X.env) :: starEach es X.env := by rfl)
    (plain : ((backTo pos (starEach (e :: es) X.env)).any (·.1) || (backToKw pos (keywordEach kws X.env)).any (·.1.isNone)) = false := by rfl) : PE X (.Call (.Name x p) (e :: es) kws pos) (tCallN n ks.length sp gV C8.E0 t tk) := by
  obtain ⟨f, fd, ps, g, F, there, keep, binds⟩ := c.ex
  exact pe_callN F (hr.mono hk) hg there keep binds C8.pass0 ha hkw named names dbg each plain
end
section
variable {K : PySem.W.Frag} {σ : L2.St} {H : Hp} {ta tb te tl : TE} {v : V} {tt : TT}
theorem el_catLL {xs ys : List V} (ha : EvL ta σ H xs) (hb : EvL tb σ H ys) (hz : xs.length + ys.length ≤ 100000) : EvL (tOp rCat ta tb) σ H (xs ++ ys) := fun H1 e Q q => ha H1 e _ fun p H2 hp e2 h2 => hb H2 (e.trans e2) _ fun p2 H3 hp2 e3 h3 => ⟨p, p2, xs, ys, rfl, rfl, e3 _ _ h2, h3, sz_of hz, fun r hr => q r _ (fresh_back (e2.trans e3) hr) ((e2.trans e3).trans (Ex.new hr)) upd_same⟩
theorem el_catVL {a : Addr} {xs ys : List V} (ha : Ev ta σ H (.ref a)) (hx : H a = some (.lst xs)) (hb : EvL tb σ H ys) (hz : xs.length + ys.length ≤ 100000) : EvL (tOp rCat ta tb) σ H (xs ++ ys) := fun H1 e Q q => ha H1 e _ fun H2 e2 => hb H2 (e.trans e2) _ fun p2 H3 hp2 e3 h3 => ⟨a, p2, xs, ys, rfl, rfl, e3 _ _ (e2 _ _ (e _ _ hx)), h3, sz_of hz, fun r hr => q r _ (fresh_back (e2.trans e3) hr) ((e2.trans e3).trans (Ex.new hr)) upd_same⟩
/-- [f(n) for n in ns if t], each element some new tuple: how many -/
theorem el_cnt {ns : List Nat} {j : Nat} {vs : List Nat} (F : Nat → Bool) (h : EvL tl σ H (nv ns)) (hz : ns.length ≤ 40000) (hw : ∀ x, wipe ((wipe σ vs).set j (some x)) vs = wipe σ vs)
    (ht : ∀ (n : Nat) H1, Ex H H1 → n ∈ ns → EvT tt ((wipe σ vs).set j (some (.int (n : Nat)))) H1 (F n))
    (he : ∀ (n : Nat) H1, Ex H H1 → n ∈ ns → ∃ T, EvU te ((wipe σ vs).set j (some (.int (n : Nat)))) H1 (nv T)) :
    ∀ H1, Ex H H1 → ∀ Q : VK, (∀ p rs H2, H1 p = none → Ex H1 H2 → H2 p = some (.lst rs) → rs.length = (ns.filter F).length → Q (.ref p) H2) → tLc (iList K tl) (gName j) tt te vs σ H1 Q := fun H0 e Q q => h H0 e _ fun a H1 ha e1 hx => ⟨a, rfl, ⟨nv ns, sq_of hx⟩, fun Dl hD =>
  lc_list (xs := nv ns) (fun i H' => H1 Dl = none ∧ Ex H1 H' ∧ ∃ rs, H' Dl = some (.lst rs) ∧ rs.length = ((ns.take i).filter F).length) ⟨hD, Ex.new hD, [], upd_same, rfl⟩ (fun i H' _ p => sq_of (p.2.1 _ _ hx)) (fun i x H' hi ⟨p1, p2, rs, p3, p4⟩ => ⟨hw x, by
    obtain ⟨n, hn, rfl⟩ := nv_get hi
    have hl := (List.getElem?_eq_some_iff.mp hn).1
    have hm := List.mem_of_getElem? hn
    have lenb : rs.length ≤ i := by
      rw [p4]
      exact Nat.le_trans (List.length_filter_le _ _) (by rw [List.length_take]; omega)
    refine ht n H' ((e.trans e1).trans p2) hm H' (Ex.refl _) _ fun H3 e3 => ?_
    have htk : ns.take (i + 1) = ns.take i ++ [n] := by rw [List.take_add_one, hn]; rfl
    cases hf : F n with
    | true =>
      show te _ H3 _
      obtain ⟨T, hT⟩ := he n H' ((e.trans e1).trans p2) hm
      refine hT H3 e3 _ fun b H4 hb e4 h4 => ⟨rs, e4 _ _ (e3 _ _ p3), sz_lt (by omega), p1, Ex.mut (p2.trans (e3.trans e4)) p1, rs ++ [.ref b], upd_same, ?_⟩
      rw [htk, List.filter_append, List.length_append, List.length_append, p4, List.filter_cons, if_pos hf]
      rfl
    | false =>
      show _ ∧ _ ∧ _
      refine ⟨p1, p2.trans e3, rs, e3 _ _ p3, ?_⟩
      rw [htk, List.filter_append, List.length_append, List.filter_cons, if_neg (by rw [hf]; decide), p4]
      rfl⟩) (fun H' ⟨p1, p2, rs, p3, p4⟩ => q Dl rs H' (fresh_back e1 p1) (e1.trans p2) p3 (by rw [nv_len, List.take_length] at p4; exact p4))⟩
end
/-- the masks in the order of the lots -/
def ordK (size : Nat) : Nat → List Nat
  | 0 => [0]
  | i + 1 => [0] ++ (ordK size i).map (fun m => m ||| (1 <<< (size - 1 - i))) ++ (ordK size i).drop 1
def ordF (size : Nat) : List Nat := ordK size size
theorem ord_ok : ∀ size : Nat, size < 6 → (∀ n : Nat, n < 1 <<< size → n ∈ ordF size) ∧ (∀ n ∈ ordF size, n < 1 <<< size) ∧ (∀ i : Nat, i < size + 1 → (ordK size i).length ≤ 64) := by decide +kernel
section
variable {P : Program} {w : World} {K : PySem.W.Frag} {mg : Str → Option Value} {base : Heap} {f : Addr} {fd : FuncData} {CF CA : Addr}
def spTwo : Sp := fun vs H Q _ => ∃ x y size : Nat, vs = [.int x, .int y, .int size] ∧ x < size ∧ y < size ∧ x ≠ y ∧ RetV .non H Q
def spOrd : Sp := fun vs H Q _ => ∃ size : Nat, vs = [.int size] ∧ size ≤ 5 ∧ RetL (nv (ordF size)) H Q
theorem sc_ordered_masks : FnScope ["size", "masks", "thing", "mask"] ["size"] (defScope (top 20)) := ⟨rfl, rfl, rfl, by decide +kernel, rfl, by decide +kernel, by decide +kernel⟩
theorem c_ordered_masks (F : FnP K "ordered_masks" (top 20) f fd) (g : mg "ordered_masks" = some (.ref f)) (B : Bi mg) : Cal P w K mg base 1 "ordered_masks" spOrd [] := by
  refine mkCal F g sc_ordered_masks (fun _ _ _ _ _ _ us hl => match us, hl with | [_], _ => rfl) (fun vs H Q E h => ?_) (fun cdv A outer s H vs Q E hr h => ?_)
  · obtain ⟨size, rfl, _⟩ := h
    rfl
  · obtain ⟨size, rfl, hz, q⟩ := h
    have hord := ord_ok size (by omega)
    refine ⟨_, (pss_cons (ps_set (i := 1) sc_ordered_masks.nd rfl (by first | exact Or.inl rfl | exact Or.inr rfl) (pe_lst (pa_cons (pe_nat 0 pe_int) pa_nil))) (pss_cons (ps_for PassesOwn.never rfl (pi_revR rfl B.reversed (prg_1 rfl B.range (pv 0))) (pg_name (i := 2) sc_ordered_masks.nd rfl (by first | exact Or.inl rfl | exact Or.inr rfl)) (pss_one (ps_set (i := 1) sc_ordered_masks.nd rfl (by first | exact Or.inl rfl | exact Or.inr rfl) (pe_op op_cat (pe_op op_cat (pe_lst (pa_cons (pe_nat 0 pe_int) pa_nil)) (pe_lc (own := [("mask", 3)]) (g := gName 3) (by rfl) sc_ordered_masks.nd (pi_list (pv 1)) (blkOk_by (own := [("mask", 3)]) (N := ["size", "masks", "thing", "mask"]) (sc := defScope (top 20)) (by decide +kernel)) (fun _ _ _ _ _ => (pg_name (i := 3) sc_ordered_masks.nd rfl (by first | exact Or.inl rfl | exact Or.inr rfl))) (fun _ _ _ _ _ => pts_nil) (fun _ _ _ _ _ => (pe_op on_or (pv 3) (pe_op on_shl (pe_nat 1 pe_int) (pv 2)))))) (pe_slice sl_list (pv 1) (po_some (pe_nat 1 pe_int)) po_none))))) (pss_one (ps_ret (pv 1))))), ?_⟩
    refine q_asgL (el_lst (ea_cons ev_c ea_nil) (by show 1 ≤ 100000; decide)) fun m0 H1 hm0 e1 h1 => ?_
    refine ⟨.int size, rfl, _, rfl, by omega, by omega, by omega, by omega, for_rangeC (fun i σ H' => Ex H H' ∧ ∃ c v2 v3, H c = none ∧ H' c = some (.lst (nv (ordK size i))) ∧ σ = [some (.int size), some (.ref c), v2, v3]) ⟨e1, m0, _, _, hm0, h1, rfl⟩ ?_ ?_⟩
    · rintro i σ H' hi ⟨e0, c, v2, v3, hc, h2, rfl⟩
      have his : i < size := by omega
      have eth : (0 : Int) + (((((size : Int) - 0).toNat : Nat) : Int)) - 1 + ((i : Nat) : Int) * (-1) = ((size - 1 - i : Nat) : Int) := by omega
      rw [eth]
      show tAsg _ _ _ [some (.int size), some (.ref c), some (.int ((size - 1 - i : Nat) : Int)), v3] H'
      have hl := hord.2.2 i (by omega)
      have em := el_nats (K := K) (tl := tVar 1) (te := tOp (rN0 fun a b => .int ((a ||| b : Nat) : Int)) (tVar 3) (tOp (rN (fun a b => a < 64 ∧ b < 64) fun a b => .int ((a <<< b : Nat) : Int)) (tC (.int ((1 : Nat) : Int))) (tVar 2))) (t := tYes) (j := 3) (vs := [3]) (a := c) (ns := ordK size i) (σ := [some (.int size), some (.ref c), some (.int ((size - 1 - i : Nat) : Int)), v3]) (H := H') (fun _ => true) (fun m => .int ((m ||| (1 <<< (size - 1 - i)) : Nat) : Int)) (ev_v 1) (sq_of h2) (by omega) (fun _ => rfl) (fun _ _ _ _ => et_yes) (fun m H3 e3 hm _ => ev_n (ev_v 3) (ev_nc ev_c (ev_v 2) ⟨by decide, by omega⟩))
      rw [List.filter_eq_self.mpr (fun _ _ => rfl), show (ordK size i).map (fun m => V.int ((m ||| (1 <<< (size - 1 - i)) : Nat) : Int)) = nv ((ordK size i).map fun m => m ||| (1 <<< (size - 1 - i))) from by unfold nv; rw [List.map_map]; rfl] at em
      have ed := el_sl (K := K) (te := tVar 1) (σ := [some (.int size), some (.ref c), some (.int ((size - 1 - i : Nat) : Int)), v3]) (tl := tPart (tC (.int ((1 : Nat) : Int)))) (th := tNoPart) (ev_v 1) (eo_some (i := 1) ev_c) eo_none (sq_of h2)
      have ec : cutV (nv (ordK size i)) (some 1) none = nv ((ordK size i).drop 1) := by
        unfold cutV
        have h0 : HT.sIx (nv (ordK size i)).length 0 (some 1) = 1 ∨ (nv (ordK size i)).length = 0 := by
          cases h : (nv (ordK size i)).length with
          | zero => exact .inr rfl
          | succ n => exact .inl (by simp [HT.sIx])
        rcases h0 with h0 | h0
        · rw [h0]
          have h1 : HT.sIx (nv (ordK size i)).length (nv (ordK size i)).length none = (nv (ordK size i)).length := rfl
          rw [h1, List.take_of_length_le (by rw [List.length_drop]; omega)]
          unfold nv
          rw [List.map_drop]
        · have h1 := List.eq_nil_of_length_eq_zero h0
          rw [nv_len] at h0
          rw [h1, List.eq_nil_of_length_eq_zero h0]
          rfl
      rw [ec] at ed
      have lm : (nv ((ordK size i).map fun m => m ||| (1 <<< (size - 1 - i)))).length ≤ 64 := by rw [nv_len, List.length_map]; exact hl
      have ld : (nv ((ordK size i).drop 1)).length ≤ 64 := by rw [nv_len, List.length_drop]; omega
      have e3 := el_catLL (el_catLL (el_lst (vs := [.int ((0 : Nat) : Int)]) (ea_cons ev_c ea_nil) (by show 1 ≤ 100000; decide)) em (by simp only [List.length_cons, List.length_nil]; omega)) ed (by simp only [List.length_append, List.length_cons, List.length_nil]; omega)
      refine s_asgL e3 fun d H3 hd e3 h3 => ⟨e0.trans e3, d, _, _, fresh_back e0 hd, ?_, rfl⟩
      rw [h3]
      show _ = some (HO.lst (nv ([0] ++ (ordK size i).map (fun m => m ||| (1 <<< (size - 1 - i))) ++ (ordK size i).drop 1)))
      unfold nv
      rw [List.map_append, List.map_append]
      rfl
    · rintro σ H' ⟨e0, c, v2, v3, hc, h2, rfl⟩
      have e : ((size : Int) - 0).toNat = size := by omega
      rw [e] at h2
      exact s_ret (ev_v 1) fun H2 e3 => q c H2 hc (e0.trans e3) (e3 _ _ h2)
end
end W7
end
section
namespace W7
/-! ### neighbours: seen from the empty lot -/
def LB (S : Nat → Prop) (b : Nat) : Prop := S b ∧ ∀ c, S c → bits b ≤ bits c
theorem LB.eq {S : Nat → Prop} {a b : Nat} (h : LB S a) (k : LB S b) : bits a = bits b := Nat.le_antisymm (h.2 _ k.1) (k.2 _ h.1)
theorem LB.iff {S T : Nat → Prop} (e : ∀ n, S n ↔ T n) {b : Nat} (h : LB S b) : LB T b := ⟨(e b).mp h.1, fun c hc => h.2 c ((e c).mpr hc)⟩
/-- each least one of T holds one of S -/
def Hold (S T : Nat → Prop) : Prop := ∀ n, LB T n → ∃ c, S c ∧ c &&& n = c
def KP (S T : Nat → Prop) : Prop := ∃ a b, LB S a ∧ LB T b ∧ ((bits a = bits b ∧ ∀ n, LB S n ↔ LB T n) ∨ (bits b = bits a + 1 ∧ Hold S T) ∨ (bits a = bits b + 1 ∧ Hold T S))
theorem KP.symm {S T : Nat → Prop} (h : KP S T) : KP T S := by
  obtain ⟨a, b, ha, hb, h | h | h⟩ := h
  · exact ⟨b, a, hb, ha, .inl ⟨h.1.symm, fun n => (h.2 n).symm⟩⟩
  · exact ⟨b, a, hb, ha, .inr (.inr h)⟩
  · exact ⟨b, a, hb, ha, .inr (.inl h)⟩
theorem KP.iff {S T S' T' : Nat → Prop} (h : KP S T) (e : ∀ n, S n ↔ S' n) (f : ∀ n, T n ↔ T' n) : KP S' T' := by
  have e1 : S = S' := funext fun n => propext (e n)
  have e2 : T = T' := funext fun n => propext (f n)
  rw [← e1, ← e2]; exact h
theorem one_tb (x j : Nat) : (1 <<< x).testBit j = decide (x = j) := tb_sh x j
theorem tog_self (x : Nat) : (1 <<< x) ^^^ (1 <<< x) = 0 := Nat.xor_self _
theorem bits_sh1 : ∀ x : Nat, x < 5 → bits (1 <<< x) = 1 := by decide +kernel
/-- a lot one thing away, and a lot of the neighbour without that thing -/
theorem meet_half {S T : Nat → Prop} (hS : EXB S) (hT : EXB T) (k : KP S T) {x g : Nat} (hx : S (1 <<< x)) (s0 : ¬ S 0) (t0 : ¬ T 0) (hg : T g) (hgx : g.testBit x = false) : ∃ y, y ≠ x ∧ g.testBit y = true ∧ (S (1 <<< y) ∨ T (1 <<< y)) := by
  have hx5 : x < 5 := lt5 (hS.lt _ hx) (by rw [one_tb]; simp)
  have b1 := bits_sh1 x hx5
  obtain ⟨a, b, ha, hb, h⟩ := k
  have ha1 : bits a ≤ 1 := by have := ha.2 _ hx; omega
  have ha0 : bits a ≠ 0 := fun e => s0 (bits_zero a (hS.lt _ ha.1) e ▸ ha.1)
  have hb0 : bits b ≠ 0 := fun e => t0 (bits_zero b (hT.lt _ hb.1) e ▸ hb.1)
  have go : ∀ (R : Nat → Prop), EXB R → ¬ R 0 → R (1 <<< x) → ∀ c, R c → c.testBit x = false → ∃ y, y ≠ x ∧ c.testBit y = true ∧ R (1 <<< y) := by
    intro R hR r0 hRx c hc hcx
    rcases hR.ex (1 <<< x) c hRx hc x (by rw [Nat.testBit_xor, hcx, one_tb]; simp) with h1 | ⟨y, h1, h2, h3⟩
    · rw [tog_self] at h1; exact absurd h1 r0
    · refine ⟨y, h1, ?_, ?_⟩
      · rw [Nat.testBit_xor, one_tb] at h2
        have : decide (x = y) = false := by simp; exact fun e => h1 e.symm
        rw [this] at h2; simpa using h2
      · rw [tog_self, Nat.zero_xor] at h3; exact h3
  rcases h with ⟨h1, h2⟩ | ⟨h1, h2⟩ | ⟨h1, h2⟩
  · have hTx : T (1 <<< x) := ((h2 _).mp ⟨hx, fun c hc => by have := ha.2 c hc; omega⟩).1
    obtain ⟨y, y1, y2, y3⟩ := go T hT t0 hTx g hg hgx
    exact ⟨y, y1, y2, .inr y3⟩
  · obtain ⟨n, n1, n2, n3⟩ := holds_least hT hg
    obtain ⟨c, c1, c2⟩ := h2 n ⟨n1, n2⟩
    have hcx : c.testBit x = false := by
      cases e : c.testBit x with
      | false => rfl
      | true => rw [sub_tb n3 (sub_tb c2 e)] at hgx; cases hgx
    obtain ⟨y, y1, y2, y3⟩ := go S hS s0 hx c c1 hcx
    exact ⟨y, y1, sub_tb n3 (sub_tb c2 y2), .inl y3⟩
  · omega
theorem xlt {a b : Nat} (ha : a < 32) (hb : b < 32) : a ^^^ b < 32 := Nat.xor_lt_two_pow (n := 5) ha hb
/-- neighbours together are gated -/
theorem union_ex {A B T : Nat → Prop} (hA : EXB A) (hB : EXB B) (k : ∀ t, T t → KP (fun c => A (c ^^^ t)) (fun c => B (c ^^^ t))) (hT : ∀ m g x, (A m ∨ B m) → (A g ∨ B g) → (m ^^^ g).testBit x = true → T (m ^^^ (1 <<< x))) : EX (fun n => A n ∨ B n) := by
  have half : ∀ A B : Nat → Prop, EXB A → EXB B → (∀ t, T t → KP (fun c => A (c ^^^ t)) (fun c => B (c ^^^ t))) → ∀ m g, A m → B g → ∀ x, (m ^^^ g).testBit x = true → T (m ^^^ (1 <<< x)) → (A (m ^^^ (1 <<< x)) ∨ B (m ^^^ (1 <<< x))) ∨ ∃ y, y ≠ x ∧ (m ^^^ g).testBit y = true ∧ (A ((m ^^^ (1 <<< x)) ^^^ (1 <<< y)) ∨ B ((m ^^^ (1 <<< x)) ^^^ (1 <<< y))) := by
    intro A B hA hB k m g hm hg x hx hTx
    by_cases h0 : A (m ^^^ (1 <<< x)) ∨ B (m ^^^ (1 <<< x))
    · exact .inl h0
    · have m32 := hA.lt _ hm
      have g32 := hB.lt _ hg
      have hx5 := lt5 (xlt m32 g32) hx
      have t32 := tog_lt m32 hx5
      have e1 : (1 <<< x) ^^^ (m ^^^ (1 <<< x)) = m := by rw [Nat.xor_comm m, ← Nat.xor_assoc, Nat.xor_self, Nat.zero_xor]
      have e2 : ∀ j, (g ^^^ (m ^^^ (1 <<< x))).testBit j = ((m ^^^ g).testBit j != decide (x = j)) := fun j => by
        rw [← Nat.xor_assoc, tb_tog, Nat.xor_comm g m]
      obtain ⟨y, y1, y2, y3⟩ := meet_half (hA.turn t32) (hB.turn t32) (k _ hTx) (x := x) (g := g ^^^ (m ^^^ (1 <<< x))) (by show A _; rw [e1]; exact hm) (fun h => h0 (.inl (by have h : A (0 ^^^ _) := h; rwa [Nat.zero_xor] at h))) (fun h => h0 (.inr (by have h : B (0 ^^^ _) := h; rwa [Nat.zero_xor] at h))) (by show B _; rw [back]; exact hg) (by rw [e2, hx]; simp)
      rw [e2] at y2
      refine .inr ⟨y, y1, ?_, ?_⟩
      · have : decide (x = y) = false := by simp; exact fun e => y1 e.symm
        rw [this] at y2; simpa using y2
      · have y4 : A ((1 <<< y) ^^^ (m ^^^ (1 <<< x))) ∨ B ((1 <<< y) ^^^ (m ^^^ (1 <<< x))) := y3
        rwa [Nat.xor_comm (1 <<< y)] at y4
  intro m g hm hg x hx
  rcases hm with hm | hm
  · rcases hg with hg | hg
    · rcases hA.ex m g hm hg x hx with h | ⟨y, h1, h2, h3⟩
      · exact .inl (.inl h)
      · exact .inr ⟨y, h1, h2, .inl h3⟩
    · exact half A B hA hB k m g hm hg x hx (hT m g x (.inl hm) (.inr hg) hx)
  · rcases hg with hg | hg
    · rcases half B A hB hA (fun t ht => (k t ht).symm) m g hm hg x hx (hT m g x (.inr hm) (.inl hg) hx) with h | ⟨y, h1, h2, h3⟩
      · exact .inl h.symm
      · exact .inr ⟨y, h1, h2, h3.symm⟩
    · rcases hB.ex m g hm hg x hx with h | ⟨y, h1, h2, h3⟩
      · exact .inl (.inr h)
      · exact .inr ⟨y, h1, h2, .inr h3⟩
/-! ### out and in -/
def outP (E : Nat → Prop) (x c : Nat) : Prop := E c ∧ c.testBit x = false
theorem sub_same : ∀ n : Nat, n < 32 → ∀ m : Nat, m < 32 → n &&& m = n → bits n = bits m → n = m := by decide +kernel
theorem sub_off {n m x : Nat} (h : n &&& (m ^^^ (1 <<< x)) = n) (hx : n.testBit x = false) : n &&& m = n := sub_of fun j hj => by
  have h1 := sub_tb h hj
  have hne : x ≠ j := fun e => by rw [e, hj] at hx; cases hx
  rwa [tog_ne hne] at h1
where
  sub_of {a b : Nat} (h : ∀ j, a.testBit j = true → b.testBit j = true) : a &&& b = a := by
    apply Nat.eq_of_testBit_eq
    intro j
    rw [Nat.testBit_and]
    cases e : a.testBit j with
    | false => rfl
    | true => rw [h j e]; rfl
/-- what is least without x, is held by a least one beside -/
theorem out_hold {E : Nat → Prop} (hE : EXB E) {x : Nat} (hx : x < 5) {n b0 : Nat} (hn : LB (outP E x) n) (hb : LB (outP (fun c => E (c ^^^ (1 <<< x))) x) b0) (hl : bits b0 ≤ bits n) : ∃ c, LB (outP (fun c => E (c ^^^ (1 <<< x))) x) c ∧ c &&& n = c := by
  have s32 : (1 : Nat) <<< x < 32 := by have := tog_lt (p := 0) (by decide) hx; rwa [Nat.zero_xor] at this
  have hE2 := hE.turn s32
  have n32 := hE.lt _ hn.1.1
  obtain ⟨c, c1, c2, c3⟩ := holds_least hE2 (f := n ^^^ (1 <<< x)) (by show E _; rw [back]; exact hn.1.1)
  have c32 := hE2.lt _ c1
  have hcb : bits c ≤ bits b0 := c2 _ hb.1.1
  cases hcx : c.testBit x with
  | true =>
    have h1 := bit_off c c32 x hx hcx
    have h2 := hn.2 (c ^^^ (1 <<< x)) ⟨c1, by rw [tog_eq, hcx]; rfl⟩
    omega
  | false =>
    refine ⟨c, ⟨⟨c1, hcx⟩, fun d hd => c2 d hd.1⟩, sub_off c3 hcx⟩
/-- the gate to the far side -/
theorem out_near {E : Nat → Prop} (hE : EXB E) {x : Nat} (hx : x < 5) {a b : Nat} (ha : LB (outP E x) a) (hb : LB (outP (fun c => E (c ^^^ (1 <<< x))) x) b) : bits a ≤ bits b + 1 := by
  have s32 : (1 : Nat) <<< x < 32 := by have := tog_lt (p := 0) (by decide) hx; rwa [Nat.zero_xor] at this
  obtain ⟨c, c1, c2, c3⟩ := holds_least hE ha.1.1
  have hcx : c.testBit x = false := by
    cases e : c.testBit x with
    | false => rfl
    | true => have := sub_tb c3 e; rw [ha.1.2] at this; cases this
  have h1 := ha.2 c ⟨c1, hcx⟩
  have h2 := c2 _ hb.1.1
  have h3 := bit_on b ((hE.turn s32).lt _ hb.1.1) x hx hb.1.2
  omega
theorem out_in_kp {E : Nat → Prop} (hE : EXB E) {x : Nat} (hx : x < 5) (h1 : ∃ a, outP E x a) (h2 : ∃ b, outP (fun c => E (c ^^^ (1 <<< x))) x b) : KP (outP E x) (outP (fun c => E (c ^^^ (1 <<< x))) x) := by
  have s32 : (1 : Nat) <<< x < 32 := by have := tog_lt (p := 0) (by decide) hx; rwa [Nat.zero_xor] at this
  have hE2 := hE.turn s32
  have e2 : (fun c => (fun c => E (c ^^^ (1 <<< x))) (c ^^^ (1 <<< x))) = E := funext fun c => by show E _ = _; rw [back]
  obtain ⟨a, a1, a2⟩ := least bits _ h1
  obtain ⟨b, b1, b2⟩ := least bits _ h2
  have ha : LB (outP E x) a := ⟨a1, a2⟩
  have hb : LB (outP (fun c => E (c ^^^ (1 <<< x))) x) b := ⟨b1, b2⟩
  have hb' := hb
  have n1 := out_near hE hx ha hb
  have n2 := out_near hE2 hx (a := b) (b := a) hb (by rw [e2]; exact ha)
  have o1 : ∀ n, LB (outP E x) n → bits b ≤ bits n → ∃ c, LB (outP (fun c => E (c ^^^ (1 <<< x))) x) c ∧ c &&& n = c := fun n hn hl => out_hold hE hx hn hb hl
  have o2 : ∀ n, LB (outP (fun c => E (c ^^^ (1 <<< x))) x) n → bits a ≤ bits n → ∃ c, LB (outP E x) c ∧ c &&& n = c := fun n hn hl => by
    have := out_hold hE2 hx (n := n) (b0 := a) hn (by rw [e2]; exact ha) hl
    rwa [e2] at this
  refine ⟨a, b, ha, hb, ?_⟩
  rcases Nat.lt_trichotomy (bits a) (bits b) with h | h | h
  · refine .inr (.inl ⟨by omega, fun n hn => ?_⟩)
    obtain ⟨c, c1, c2⟩ := o2 n hn (by have := hn.eq hb; omega)
    exact ⟨c, c1.1, c2⟩
  · refine .inl ⟨h, fun n => ⟨fun hn => ?_, fun hn => ?_⟩⟩
    · obtain ⟨c, c1, c2⟩ := o1 n hn (by have := hn.eq ha; omega)
      have e := sub_same c (hE2.lt _ c1.1.1) n (hE.lt _ hn.1.1) c2 (by have := c1.eq hb; have := hn.eq ha; omega)
      rw [← e]; exact c1
    · obtain ⟨c, c1, c2⟩ := o2 n hn (by have := hn.eq hb; omega)
      have e := sub_same c (hE.lt _ c1.1.1) n (hE2.lt _ hn.1.1) c2 (by have := c1.eq ha; have := hn.eq hb; omega)
      rw [← e]; exact c1
  · refine .inr (.inr ⟨by omega, fun n hn => ?_⟩)
    obtain ⟨c, c1, c2⟩ := o1 n hn (by have := hn.eq ha; omega)
    exact ⟨c, c1.1, c2⟩
/-- out and in of a gated family are neighbours, at all lots without the thing -/
theorem sides_kp {D : Nat → Prop} (hD : EXB D) {x t : Nat} (hx : x < 5) (ht : t < 32) (htx : t.testBit x = false) (h1 : ∃ a, outP D x a) (h2 : ∃ b, outP (fun c => D (c ^^^ (1 <<< x))) x b) :
    KP (fun c => outP D x (c ^^^ t)) (fun c => outP (fun c => D (c ^^^ (1 <<< x))) x (c ^^^ t)) := by
  have tb : ∀ c : Nat, (c ^^^ t).testBit x = c.testBit x := fun c => by rw [Nat.testBit_xor, htx, Bool.xor_false]
  have k := out_in_kp (hD.turn ht) hx (by
    obtain ⟨a, a1, a2⟩ := h1
    exact ⟨a ^^^ t, by show D _; rw [back]; exact a1, by rw [tb]; exact a2⟩) (by
    obtain ⟨b, b1, b2⟩ := h2
    refine ⟨b ^^^ t, ?_, by rw [tb]; exact b2⟩
    show D (((b ^^^ t) ^^^ (1 <<< x)) ^^^ t)
    rw [xx, back]; exact b1)
  refine k.iff (fun n => ?_) (fun n => ?_)
  · show (D _ ∧ _) ↔ (D _ ∧ _)
    rw [tb]
  · show (D ((n ^^^ (1 <<< x)) ^^^ t) ∧ _) ↔ (D ((n ^^^ t) ^^^ (1 <<< x)) ∧ _)
    rw [tb, xx]
end W7
end
section
namespace W7
open PySem PySem.Spec PyProof.Rows L2 L3 Evl
open C8 (Cal pe_c Mak pe_mk Met pe_mt pe_mt0)
/-! ### clash -/
def conB (m : Nat) (ps : List Nat) : Bool := ps.any fun q => decide (q &&& m = q)
def kepB (near others : List Nat) : Bool := near.all fun m => conB m others
def aprF (fm : List Nat) (t : Nat) : List Nat := fm.map fun m => m ^^^ t
def nrF (fm : List Nat) (t : Nat) : List Nat := (aprF fm t).filter fun m => decide (bits m = rkF fm t)
/-- at this lot they are neighbours -/
def okB (fm gm : List Nat) (t : Nat) : Bool := (decide (rkF gm t = rkF fm t) && decide (nrF fm t = nrF gm t)) || ((decide (rkF gm t = rkF fm t + 1) && kepB (nrF gm t) (aprF fm t)) || (decide (rkF fm t = rkF gm t + 1) && kepB (nrF fm t) (aprF gm t)))
def clashO (size : Nat) (fm gm : List Nat) : Option Nat := (ordF size).find? fun t => !okB fm gm t
theorem con_take {m : Nat} {ps : List Nat} {i n : Nat} (hn : ps[i]? = some n) : conB m (ps.take (i + 1)) = (conB m (ps.take i) || decide (n &&& m = n)) := by
  unfold conB
  rw [List.take_add_one, hn, List.any_append]
  simp
section
variable {P : Program} {w : World} {K : PySem.W.Frag} {mg : Str → Option Value} {base : Heap} {f : Addr} {fd : FuncData} {CF CA : Addr}
def spCon (K : PySem.W.Frag) : Sp := fun vs H Q _ => ∃ (m : Nat) (p : Addr) (ps : List Nat), vs = [.int m, .ref p] ∧ SqL K H p (nv ps) ∧ RetV (.bl (conB m ps)) H Q
theorem sc_contains_one : FnScope ["mask", "parts", "part"] ["mask", "parts"] (defScope (top 26)) := ⟨rfl, rfl, rfl, by decide +kernel, rfl, by decide +kernel, by decide +kernel⟩
theorem c_contains_one (F : FnP K "contains_one" (top 26) f fd) (g : mg "contains_one" = some (.ref f)) (B : Bi mg) : Cal P w K mg base 1 "contains_one" (spCon K) [] := by
  refine mkCal F g sc_contains_one (fun _ _ _ _ _ _ us hl => match us, hl with | [_, _], _ => rfl) (fun vs H Q E h => ?_) (fun cdv A outer s H vs Q E hr h => ?_)
  · obtain ⟨m, p, ps, rfl, _⟩ := h
    rfl
  · obtain ⟨m, p, ps, rfl, hs, q⟩ := h
    refine ⟨_, (pss_cons (ps_for PassesOwn.never rfl (pi_list (pv 1)) (pg_name (i := 2) sc_contains_one.nd rfl (by first | exact Or.inl rfl | exact Or.inr rfl)) (pss_one (ps_if (pt_cmpR on_eq (pe_op on_and (pv 2) (pv 0)) (pv 2) (nomark _)) (pss_one (ps_ret pe_bl)) pss_nil))) (pss_one (ps_ret pe_bl))), ?_⟩
    refine q_forLN (K := K) (H0 := H) (ns := ps) (ev_v 1) hs (Ex.refl H) (fun i σ H' => Ex H H' ∧ conB m (ps.take i) = false ∧ ∃ v2, σ = [some (.int m), some (.ref p), v2]) (fun H2 e2 => ⟨e2, rfl, _, rfl⟩) (fun i σ H' h => h.1) ?_ ?_
    · rintro i n σ H' hn ⟨e0, hc, v2, rfl⟩
      have ht := con_take (m := m) hn
      show tIfS _ _ _ _ [some (.int m), some (.ref p), some (.int (n : Nat))] H'
      refine s_when (b := decide (n &&& m = n)) (et_test (ev_n (ev_n (ev_v 2) (ev_v 0)) (ev_v 2))) (fun hb H1 e1 => ?_) (fun hb H1 e1 => ⟨e0.trans e1, by rw [ht, hc, hb]; rfl, _, rfl⟩)
      have hall : conB m ps = true := List.any_eq_true.mpr ⟨n, List.mem_of_getElem? hn, hb⟩
      rw [hall] at q
      exact s_ret ev_c fun H2 e2 => q H2 ((e0.trans e1).trans e2)
    · rintro σ H' ⟨e0, hc, v2, rfl⟩
      rw [List.take_length] at hc
      rw [hc] at q
      exact s_ret ev_c fun H2 e2 => q H2 (e0.trans e2)
def spKept (K : PySem.W.Frag) : Sp := fun vs H Q _ => ∃ (p r : Addr) (ns ps : List Nat), vs = [.ref p, .ref r] ∧ SqL K H p (nv ns) ∧ SqL K H r (nv ps) ∧ ns.length ≤ 40000 ∧ RetV (.bl (kepB ns ps)) H Q
theorem sc_kept_between : FnScope ["near", "others", "mask"] ["near", "others"] (defScope (top 44)) := ⟨rfl, rfl, rfl, by decide +kernel, rfl, by decide +kernel, by decide +kernel⟩
theorem c_kept_between (F : FnP K "kept_between" (top 44) f fd) (g : mg "kept_between" = some (.ref f)) (B : Bi mg) (c_contains_one : Cal P w K mg base 1 "contains_one" (spCon K) []) : Cal P w K mg base 2 "kept_between" (spKept K) [] := by
  refine mkCal F g sc_kept_between (fun _ _ _ _ _ _ us hl => match us, hl with | [_, _], _ => rfl) (fun vs H Q E h => ?_) (fun cdv A outer s H vs Q E hr h => ?_)
  · obtain ⟨p, r, ns, ps, rfl, _⟩ := h
    rfl
  · obtain ⟨p, r, ns, ps, rfl, h1, h2, hz, q⟩ := h
    refine ⟨_, (pss_one (ps_ret (pe_callB (cr_allK (K := K) rfl rfl) (by rfl) B.all (by decide +kernel) (pa_cons (pe_lc (own := [("mask", 2)]) (g := gName 2) (by rfl) sc_kept_between.nd (pi_list (pv 0)) (blkOk_by (own := [("mask", 2)]) (N := ["near", "others", "mask"]) (sc := defScope (top 44)) (by decide +kernel)) (fun _ _ _ _ _ => (pg_name (i := 2) sc_kept_between.nd rfl (by first | exact Or.inl rfl | exact Or.inr rfl))) (fun _ _ _ _ _ => pts_nil) (fun _ _ _ _ _ => (pe_c c_contains_one hr (by decide) rfl (pa_cons (pv 2) (pa_cons (pv 1) pa_nil))))) pa_nil)))), ?_⟩
    refine s_ret (ev_is (ev_allL (bs := ns.map fun m => conB m ps) (el_is (el_nats (fun _ => true) (fun m => .bl (conB m ps)) (ev_v 0) h1 hz (fun _ => rfl) (fun _ _ _ _ => et_yes) (fun m H1 e1 hm _ => ev_call (ea_cons (ev_v 2) (ea_cons (ev_v 1) ea_nil)) fun H2 e2 Q2 q2 E2 => ⟨m, r, ps, rfl, ex_l (e1.trans e2) h2, q2⟩)) ?_)) ?_) q
    · unfold bv
      rw [List.filter_eq_self.mpr (fun _ _ => rfl), List.map_map]; rfl
    · unfold kepB
      rw [List.all_map]; rfl
def spClash (CF : Addr) (R : Nat → List Nat → List Nat → Hp → VK → Prop) : Sp := fun vs H Q _ => ∃ (a b : Addr) (size : Nat) (fm gm : List Nat), vs = [.ref a, .ref b] ∧ FamAt H CF a size fm ∧ FamOk size fm ∧ FamAt H CF b size gm ∧ FamOk size gm ∧ R size fm gm H Q
def RetClash (size : Nat) (fm gm : List Nat) (H : Hp) (Q : VK) : Prop := (clashO size fm gm = none → RetV .non H Q) ∧ ∀ t, clashO size fm gm = some t → RetU (nv (lotF t)) H Q
theorem dep_get {size : Nat} {fm : List Nat} {t : Nat} (ht : t < 1 <<< size) : (nv (depF size fm))[t]? = some (.int (rkF fm t : Nat)) := nv_rng ht
theorem cnt_get {size m : Nat} (hz : size ≤ 5) (hm : m < 1 <<< size) : (nv (cntF size))[m]? = some (.int (bits m : Nat)) := by
  unfold nv
  rw [List.getElem?_map, cnt_bits size (by omega) m hm]; rfl
theorem apr_lt {size : Nat} {fm : List Nat} {t : Nat} (ok : FamOk size fm) (ht : t < 1 <<< size) : ∀ m ∈ aprF fm t, m < 1 <<< size := fun m hm => by
  obtain ⟨n, hn, rfl⟩ := List.mem_map.mp hm
  exact xor_lt_sh (ok.lt n hn) ht
theorem apr_len {fm : List Nat} {t : Nat} : (aprF fm t).length = fm.length := by unfold aprF; rw [List.length_map]
theorem find_take {ns : List Nat} {F : Nat → Bool} {i n : Nat} (hn : ns[i]? = some n) (h : ∀ m ∈ ns.take i, F m = false) (hF : F n = true) : ns.find? F = some n := by
  have hl := (List.getElem?_eq_some_iff.mp hn).1
  rw [List.find?_eq_some_iff_append]
  refine ⟨hF, ns.take i, ns.drop (i + 1), ?_, fun m hm => by rw [h m hm]; rfl⟩
  have : ns = ns.take i ++ ns.drop i := (List.take_append_drop i ns).symm
  have hd : ns.drop i = n :: ns.drop (i + 1) := by
    rw [List.drop_eq_getElem_cons hl, (List.getElem?_eq_some_iff.mp hn).2]
  rw [← hd]; exact this
theorem sc_clash : FnScope ["family", "other", "counts", "masks", "others", "depths", "other_depths", "target", "apart", "mask", "other_apart", "near", "other_near", "change", "is_kept"] ["family", "other"] (defScope (top 45)) := ⟨rfl, rfl, rfl, by decide +kernel, rfl, by decide +kernel, by decide +kernel⟩
theorem c_clash (C : FC K CF) (F : FnP K "clash" (top 45) f fd) (g : mg "clash" = some (.ref f)) (B : Bi mg) (c_thing_counts : Cal P w K mg base 2 "thing_counts" spCounts []) (c_family_masks : Cal P w K mg base 2 "family_masks" (spFm K CF fun _ fm => nv fm) []) (c_depth_row : Cal P w K mg base 4 "depth_row" (spFm K CF fun size fm => nv (depF size fm)) []) (c_ordered_masks : Cal P w K mg base 1 "ordered_masks" spOrd []) (c_kept_between : Cal P w K mg base 2 "kept_between" (spKept K) []) (c_lot_from : Cal P w K mg base 1 "lot_from" spLotFrom []) : Cal P w K mg base 5 "clash" (spClash CF RetClash) [] := by
  refine mkCal F g sc_clash (fun _ _ _ _ _ _ us hl => match us, hl with | [_, _], _ => rfl) (fun vs H Q E h => ?_) (fun cdv A outer s H vs Q E hr h => ?_)
  · obtain ⟨a, b, size, fm, gm, rfl, _⟩ := h
    rfl
  · obtain ⟨a, b, size, fm, gm, rfl, hf, ok, hg, okg, q1, q2⟩ := h
    have hz := ok.s5
    have h64 := pow64 (n := size) (by omega)
    have hord := ord_ok size (by omega)
    have hl1 := ok.len
    have hl2 := okg.len
    refine ⟨_, (pss_cons (ps_if (pt_cmpR on_ne (pe_fld (pv 1) rfl) (pe_fld (pv 0) rfl) (nomark _)) (pss_one ps_never) pss_nil) (pss_cons (ps_set (i := 2) sc_clash.nd rfl (by first | exact Or.inl rfl | exact Or.inr rfl) (pe_c c_thing_counts hr (by decide) rfl (pa_cons (pe_fld (pv 0) rfl) pa_nil))) (pss_cons (ps_par (i := 3) (j := 4) rfl sc_clash.nd rfl rfl (by decide) rfl rfl (pa_cons (pe_c c_family_masks hr (by decide) rfl (pa_cons (pv 0) pa_nil)) (pa_cons (pe_c c_family_masks hr (by decide) rfl (pa_cons (pv 1) pa_nil)) pa_nil)) rfl) (pss_cons (ps_asg (pe_tup (pa_cons (pe_c c_depth_row hr (by decide) rfl (pa_cons (pv 0) pa_nil)) (pa_cons (pe_c c_depth_row hr (by decide) rfl (pa_cons (pv 1) pa_nil)) pa_nil))) (pg_tup rfl (pgs_cons (pg_name (i := 5) sc_clash.nd rfl (by first | exact Or.inl rfl | exact Or.inr rfl)) (pgs_cons (pg_name (i := 6) sc_clash.nd rfl (by first | exact Or.inl rfl | exact Or.inr rfl)) pgs_nil)))) (pss_cons (ps_for PassesOwn.never rfl (pi_list (pe_c c_ordered_masks hr (by decide) rfl (pa_cons (pe_fld (pv 0) rfl) pa_nil))) (pg_name (i := 7) sc_clash.nd rfl (by first | exact Or.inl rfl | exact Or.inr rfl)) (pss_cons (ps_setLc (i := 8) (own := [("mask", 9)]) (g := gName 9) (by rfl) sc_clash.nd rfl rfl (sw_true rfl rfl rfl (by decide +kernel)) (pi_list (pv 3)) (blkOk_by (own := [("mask", 9)]) (N := ["family", "other", "counts", "masks", "others", "depths", "other_depths", "target", "apart", "mask", "other_apart", "near", "other_near", "change", "is_kept"]) (sc := defScope (top 45)) (by decide +kernel)) (fun _ _ _ _ _ => (pg_name (i := 9) sc_clash.nd rfl (by first | exact Or.inl rfl | exact Or.inr rfl))) (fun _ _ _ _ _ => pts_nil) (fun _ _ _ _ _ => (pe_op on_xor (pv 9) (pv 7)))) (pss_cons (ps_setLc (i := 10) (own := [("mask", 9)]) (g := gName 9) (by rfl) sc_clash.nd rfl rfl (sw_true rfl rfl rfl (by decide +kernel)) (pi_list (pv 4)) (blkOk_by (own := [("mask", 9)]) (N := ["family", "other", "counts", "masks", "others", "depths", "other_depths", "target", "apart", "mask", "other_apart", "near", "other_near", "change", "is_kept"]) (sc := defScope (top 45)) (by decide +kernel)) (fun _ _ _ _ _ => (pg_name (i := 9) sc_clash.nd rfl (by first | exact Or.inl rfl | exact Or.inr rfl))) (fun _ _ _ _ _ => pts_nil) (fun _ _ _ _ _ => (pe_op on_xor (pv 9) (pv 7)))) (pss_cons (ps_setLc (i := 11) (own := [("mask", 9)]) (g := gName 9) (by rfl) sc_clash.nd rfl rfl (sw_true rfl rfl rfl (by decide +kernel)) (pi_list (pv 8)) (blkOk_by (own := [("mask", 9)]) (N := ["family", "other", "counts", "masks", "others", "depths", "other_depths", "target", "apart", "mask", "other_apart", "near", "other_near", "change", "is_kept"]) (sc := defScope (top 45)) (by decide +kernel)) (fun _ _ _ _ _ => (pg_name (i := 9) sc_clash.nd rfl (by first | exact Or.inl rfl | exact Or.inr rfl))) (fun _ _ _ _ _ => (pts_one (pt_cmpR on_eq (pe_ix (on_ix (K := K)) (pv 2) (pv 9) (fun _ _ => rfl)) (pe_ix (on_ix (K := K)) (pv 5) (pv 7) (fun _ _ => rfl)) (nomark _)))) (fun _ _ _ _ _ => (pv 9))) (pss_cons (ps_setLc (i := 12) (own := [("mask", 9)]) (g := gName 9) (by rfl) sc_clash.nd rfl rfl (sw_true rfl rfl rfl (by decide +kernel)) (pi_list (pv 10)) (blkOk_by (own := [("mask", 9)]) (N := ["family", "other", "counts", "masks", "others", "depths", "other_depths", "target", "apart", "mask", "other_apart", "near", "other_near", "change", "is_kept"]) (sc := defScope (top 45)) (by decide +kernel)) (fun _ _ _ _ _ => (pg_name (i := 9) sc_clash.nd rfl (by first | exact Or.inl rfl | exact Or.inr rfl))) (fun _ _ _ _ _ => (pts_one (pt_cmpR on_eq (pe_ix (on_ix (K := K)) (pv 2) (pv 9) (fun _ _ => rfl)) (pe_ix (on_ix (K := K)) (pv 6) (pv 7) (fun _ _ => rfl)) (nomark _)))) (fun _ _ _ _ _ => (pv 9))) (pss_cons (ps_set (i := 13) sc_clash.nd rfl (by first | exact Or.inl rfl | exact Or.inr rfl) (pe_op op_sub (pe_ix (on_ix (K := K)) (pv 6) (pv 7) (fun _ _ => rfl)) (pe_ix (on_ix (K := K)) (pv 5) (pv 7) (fun _ _ => rfl)))) (pss_cons (ps_set (i := 14) sc_clash.nd rfl (by first | exact Or.inl rfl | exact Or.inr rfl) (pe_or (pe_and (pe_cmpR op_eq (pv 13) pe_int (nomark _)) (pe_one (pe_cmpR (op_eqD hr.units) (pv 11) (pv 12) (nomark _)))) (pe_or (pe_and (pe_cmpR op_eq (pv 13) pe_int (nomark _)) (pe_one (pe_c c_kept_between hr (by decide) rfl (pa_cons (pv 12) (pa_cons (pv 8) pa_nil))))) (pe_one (pe_and (pe_cmpR op_eq (pv 13) (pe_un un_neg (pe_nat 1 pe_int)) (nomark _)) (pe_one (pe_c c_kept_between hr (by decide) rfl (pa_cons (pv 11) (pa_cons (pv 10) pa_nil))))))))) (pss_one (ps_if (pt_not (pt_val (pv 14))) (pss_one (ps_ret (pe_c c_lot_from hr (by decide) rfl (pa_cons (pv 7) pa_nil)))) pss_nil))))))))) (pss_one (ps_ret pe_non))))))), ?_⟩
    refine q_when (b := !decide (size = size)) (et_test (ev_n (ev_size hg C (ev_v 1)) (ev_size hf C (ev_v 0)))) (fun hb => absurd hb (by simp)) (fun _ H0 e0 => ?_)
    refine q_asgL (el_call (ea_cons (ev_size (hf.ex e0) C (ev_v 0)) ea_nil) fun H2 e2 Q2 q2 E2 => ⟨size, rfl, by omega, q2⟩) fun c H1 hc e1 h1 => ?_
    have e01 := e0.trans e1
    refine q_parL (el_call (ea_cons (ev_v 0) ea_nil) fun H2 e2 Q2 q2 E2 => ⟨a, size, fm, rfl, (hf.ex e01).ex e2, ok, q2⟩) (fun H2 e2 => el_call (ea_cons (ev_v 1) ea_nil) fun H3 e3 Q3 q3 E3 => ⟨b, size, gm, rfl, ((hg.ex e01).ex e2).ex e3, okg, q3⟩) fun p1 p2 H2 hp1 hp2 e2 m1 m2 => ?_
    have e02 := e01.trans e2
    refine q_tupL (el_call (ea_cons (ev_v 0) ea_nil) fun H3 e3 Q3 q3 E3 => ⟨a, size, fm, rfl, (hf.ex e02).ex e3, ok, q3⟩) (fun H3 e3 => el_call (ea_cons (ev_v 1) ea_nil) fun H4 e4 Q4 q4 E4 => ⟨b, size, gm, rfl, ((hg.ex e02).ex e3).ex e4, okg, q4⟩) fun d1 d2 H3 hd1 hd2 e3 n1 n2 => ?_
    have e03 := e02.trans e3
    have c3 := e3 _ _ (e2 _ _ h1)
    have m13 := e3 _ _ m1
    have m23 := e3 _ _ m2
    refine q_forLC (ns := ordF size) (el_call (ea_cons (ev_size (hf.ex e03) C (ev_v 0)) ea_nil) fun H4 e4 Q4 q4 E4 => ⟨size, rfl, hz, q4⟩) (fun H4 i σ H' => Ex H4 H' ∧ (∀ t ∈ (ordF size).take i, okB fm gm t = true) ∧ ∃ v7 v8 v9 v10 v11 v12 v13 v14, σ = [some (.ref a), some (.ref b), some (.ref c), some (.ref p1), some (.ref p2), some (.ref d1), some (.ref d2), v7, v8, v9, v10, v11, v12, v13, v14]) (fun H4 e4 => ⟨Ex.refl _, (fun t ht => by simp at ht), _, _, _, _, _, _, _, _, rfl⟩) (fun H4 i σ' H' h => h.1) ?_ ?_
    · rintro H4 e4 i t σ H5 hn ⟨e5, hall, v7, v8, v9, v10, v11, v12, v13, v14, rfl⟩
      have ht := hord.2.1 t (List.mem_of_getElem? hn)
      have e35 := e4.trans e5
      show tSeq _ _ _ [some (.ref a), some (.ref b), some (.ref c), some (.ref p1), some (.ref p2), some (.ref d1), some (.ref d2), some (.int (t : Nat)), v8, v9, v10, v11, v12, v13, v14] H5
      refine q_asgL (el_is (ys := nv (aprF fm t)) (el_nats (ns := fm) (fun _ => true) (fun m => .int ((m ^^^ t : Nat) : Int)) (ev_v 3) (sq_of (e35 _ _ m13)) (by omega) (fun _ => rfl) (fun _ _ _ _ => et_yes) (fun m H6 e6 hm _ => ev_n (ev_v 9) (ev_v 7))) (by rw [List.filter_eq_self.mpr (fun _ _ => rfl)]; unfold aprF nv; rw [List.map_map]; rfl)) fun x1 H6 hx1 e6 x6 => ?_
      refine q_asgL (el_is (ys := nv (aprF gm t)) (el_nats (ns := gm) (fun _ => true) (fun m => .int ((m ^^^ t : Nat) : Int)) (ev_v 4) (sq_of (e6 _ _ (e35 _ _ m23))) (by omega) (fun _ => rfl) (fun _ _ _ _ => et_yes) (fun m H7 e7 hm _ => ev_n (ev_v 9) (ev_v 7))) (by rw [List.filter_eq_self.mpr (fun _ _ => rfl)]; unfold aprF nv; rw [List.map_map]; rfl)) fun x2 H7 hx2 e7 x7 => ?_
      have e37 := e35.trans (e6.trans e7)
      refine q_asgL (xs := nv (nrF fm t)) (el_nats (ns := aprF fm t) (fun m => decide (bits m = rkF fm t)) (fun m => .int ((m : Nat) : Int)) (ev_v 8) (sq_of (e7 _ _ x6)) (by rw [apr_len]; omega) (fun _ => rfl) (fun m H8 e8 hm => et_test (ev_n (ev_ix (sq_of (e8 _ _ (e37 _ _ c3))) (ev_v 2) (ev_v 9) (cnt_get hz (apr_lt ok ht m hm))) (ev_ix (sq_of (e8 _ _ (e37 _ _ n1))) (ev_v 5) (ev_v 7) (dep_get ht)))) (fun m H8 e8 hm _ => ev_v 9)) fun y1 H8 hy1 e8 y8 => ?_
      refine q_asgL (xs := nv (nrF gm t)) (el_nats (ns := aprF gm t) (fun m => decide (bits m = rkF gm t)) (fun m => .int ((m : Nat) : Int)) (ev_v 10) (sq_of (e8 _ _ x7)) (by rw [apr_len]; omega) (fun _ => rfl) (fun m H9 e9 hm => et_test (ev_n (ev_ix (sq_of (e9 _ _ (e8 _ _ (e37 _ _ c3)))) (ev_v 2) (ev_v 9) (cnt_get hz (apr_lt okg ht m hm))) (ev_ix (sq_of (e9 _ _ (e8 _ _ (e37 _ _ n2)))) (ev_v 6) (ev_v 7) (dep_get ht)))) (fun m H9 e9 hm _ => ev_v 9)) fun y2 H9 hy2 e9 y9 => ?_
      have e89 := e37.trans (e8.trans e9)
      refine q_asg (v := .int ((rkF gm t : Int) - (rkF fm t : Int))) (ev_op (ev_ix (sq_of (e89 _ _ n2)) (ev_v 6) (ev_v 7) (dep_get ht)) (ev_ix (sq_of (e89 _ _ n1)) (ev_v 5) (ev_v 7) (dep_get ht)) rv_I0) fun H10 e10 => ?_
      have z1 := e10 _ _ (e9 _ _ y8)
      have z2 := e10 _ _ y9
      have w1 := e10 _ _ (e9 _ _ (e8 _ _ (e7 _ _ x6)))
      have w2 := e10 _ _ (e9 _ _ (e8 _ _ x7))
      have nl1 : (nrF fm t).length ≤ 64 := Nat.le_trans (List.length_filter_le _ _) (by rw [apr_len]; exact hl1)
      have nl2 : (nrF gm t).length ≤ 64 := Nat.le_trans (List.length_filter_le _ _) (by rw [apr_len]; exact hl2)
      refine q_asg (v := .bl (okB fm gm t)) (ev_is (ev_orV (a := decide (rkF gm t = rkF fm t) && decide (nrF fm t = nrF gm t)) (b := (decide (rkF gm t = rkF fm t + 1) && kepB (nrF gm t) (aprF fm t)) || (decide (rkF fm t = rkF gm t + 1) && kepB (nrF fm t) (aprF gm t))) (ev_andV (ev_is (ev_op (x := .int ((rkF gm t : Int) - (rkF fm t : Int))) (y := .int 0) (ev_v 13) ev_c (rv_eq rfl)) (by congr 1; rw [decide_eq_decide, V.int.injEq]; omega)) fun _ => ev_eqN (ev_v 11) (ev_v 12) (sq_of z1) (sq_of z2)) fun _ => ev_orV (ev_andV (ev_is (ev_op (x := .int ((rkF gm t : Int) - (rkF fm t : Int))) (y := .int 1) (ev_v 13) ev_c (rv_eq rfl)) (by congr 1; rw [decide_eq_decide, V.int.injEq]; omega)) fun _ => ev_call (ea_cons (ev_v 12) (ea_cons (ev_v 8) ea_nil)) fun H11 e11 Q11 q11 E11 => ⟨y2, x1, nrF gm t, aprF fm t, rfl, sq_of (e11 _ _ z2), sq_of (e11 _ _ w1), by omega, q11⟩) fun _ => ev_andV (ev_is (ev_op (x := .int ((rkF gm t : Int) - (rkF fm t : Int))) (y := .int (-1)) (ev_v 13) (ev_un (x := .int ((1 : Nat) : Int)) ev_c ru_neg) (rv_eq rfl)) (by congr 1; rw [decide_eq_decide, V.int.injEq]; omega)) fun _ => ev_call (ea_cons (ev_v 11) (ea_cons (ev_v 10) ea_nil)) fun H11 e11 Q11 q11 E11 => ⟨y1, x2, nrF fm t, aprF gm t, rfl, sq_of (e11 _ _ z1), sq_of (e11 _ _ w2), by omega, q11⟩) rfl) fun H11 e11 => ?_
      have e4b := (e37.trans (e8.trans e9)).trans (e10.trans e11)
      have e5b := e5.trans ((e6.trans e7).trans ((e8.trans e9).trans (e10.trans e11)))
      refine s_when (b := !okB fm gm t) (et_not (et_B (ev_v 14))) (fun hb H12 e12 => ?_) (fun hb H12 e12 => ⟨e5b.trans e12, fun u hu => ?_, _, _, _, _, _, _, _, _, rfl⟩)
      · refine s_retU (xs := nv (lotF t)) (eu_call (ea_cons (ev_v 7) ea_nil) fun H13 e13 Q13 q13 E13 => ⟨t, rfl, by omega, q13⟩) fun r H13 hr13 e13 h13 => ?_
        exact q2 t (find_take hn (fun u hu => by rw [hall u hu]; rfl) hb) r H13 (fresh_back ((e03.trans e4b).trans e12) hr13) (((e03.trans e4b).trans e12).trans e13) h13
      · rw [List.take_add_one, hn, Option.toList_some, List.mem_append] at hu
        rcases hu with hu | hu
        · exact hall u hu
        · rw [List.mem_singleton.mp hu]
          simpa using hb
    · rintro H4 e4 σ H5 ⟨e5, hall, v7, v8, v9, v10, v11, v12, v13, v14, rfl⟩
      rw [List.take_length] at hall
      refine s_ret ev_c fun H6 e6 => q1 ?_ H6 ((e03.trans (e4.trans e5)).trans e6)
      unfold clashO
      rw [List.find?_eq_none]
      intro t ht
      rw [hall t ht]; decide
theorem sc_are_neighbours : FnScope ["family", "other"] ["family", "other"] (defScope (top 46)) := ⟨rfl, rfl, rfl, by decide +kernel, rfl, by decide +kernel, by decide +kernel⟩
theorem c_are_neighbours (F : FnP K "are_neighbours" (top 46) f fd) (g : mg "are_neighbours" = some (.ref f)) (B : Bi mg) (c_clash : Cal P w K mg base 5 "clash" (spClash CF RetClash) []) : Cal P w K mg base 6 "are_neighbours" (spClash CF fun size fm gm => RetV (.bl (decide (clashO size fm gm = none)))) [] := by
  refine mkCal F g sc_are_neighbours (fun _ _ _ _ _ _ us hl => match us, hl with | [_, _], _ => rfl) (fun vs H Q E h => ?_) (fun cdv A outer s H vs Q E hr h => ?_)
  · obtain ⟨a, b, size, fm, gm, rfl, _⟩ := h
    rfl
  · obtain ⟨a, b, size, fm, gm, rfl, hf, ok, hg, okg, q⟩ := h
    refine ⟨_, (pss_one (ps_ret (pe_cmp (pc_isN (pe_c c_clash hr (by decide) rfl (pa_cons (pv 0) (pa_cons (pv 1) pa_nil)))) rfl))), ?_⟩
    refine ⟨.ref a, rfl, .ref b, rfl, a, b, size, fm, gm, rfl, hf, ok, hg, okg, fun h0 H1 e1 => ?_, fun t h0 r H1 hr1 e1 h1 => ?_⟩
    · rw [h0] at q
      exact q H1 e1
    · rw [h0] at q
      exact q H1 e1
end
end W7
end
section
namespace W7
open PySem PySem.Spec PyProof.Rows L2 L3 Evl
open C8 (Cal pe_c Mak pe_mk Met pe_mt pe_mt0)
/-! ### lots given as lists or tuples, their things in any order -/
def LotsP (H : Hp) (rs : List V) (ms : List Nat) : Prop := rs.length = ms.length ∧ ∀ (i : Nat) (r : V) (m : Nat), rs[i]? = some r → ms[i]? = some m → ∃ b ns, r = .ref b ∧ LotA H b ns ∧ ns.Perm (lotF m)
theorem LotsP.ex {H H' : Hp} {rs : List V} {ms : List Nat} (h : LotsP H rs ms) (e : Ex H H') : LotsP H' rs ms := ⟨h.1, fun i r m a b => by
  obtain ⟨p, ns, c, d, f⟩ := h.2 i r m a b
  exact ⟨p, ns, c, d.ex e, f⟩⟩
theorem LotsP.xb {x : Addr} {H H' : Hp} {C dx : Addr} {fs : List (Str × V)} {rs : List V} {ms : List Nat} (h : LotsP H rs ms) (hx : H x = some (.ins C dx fs)) (b : XB x H H') : LotsP H' rs ms := ⟨h.1, fun i r m u v => by
  obtain ⟨p, ns, c, d, f⟩ := h.2 i r m u v
  refine ⟨p, ns, c, ?_, f⟩
  rcases d with d | d
  · exact .inl (b _ _ (fun e => by rw [e, hx] at d; cases d) d)
  · exact .inr (b _ _ (fun e => by rw [e, hx] at d; cases d) d)⟩
theorem Lots.toP {H : Hp} {rs : List V} {ms : List Nat} (h : Lots H rs (ms.map lotF)) : LotsP H rs ms := ⟨by rw [h.1, List.length_map], fun i r m a b => by
  obtain ⟨p, c, d⟩ := h.2 i r (lotF m) a (by rw [List.getElem?_map, b]; rfl)
  exact ⟨p, lotF m, c, .inr d, List.Perm.refl _⟩⟩
section
variable {P : Program} {w : World} {K : PySem.W.Frag} {mg : Str → Option Value} {base : Heap} {f : Addr} {fd : FuncData} {CF : Addr}
def spRowsA : Sp := fun vs H Q _ => ∃ (size : Nat) (p : Addr) (rs : List V) (ms : List Nat), vs = [.int size, .ref p] ∧ size ≤ 5 ∧ (H p = some (.lst rs) ∨ H p = some (.tup rs)) ∧ LotsP H rs ms ∧ ms.Nodup ∧ ms ≠ [] ∧ (∀ m ∈ ms, m < 1 <<< size) ∧ ms.length ≤ 64 ∧ RetLots (ms.map lotF) H Q
theorem c_checked_rowsA (F : FnP K "checked_rows" (top 29) f fd) (g : mg "checked_rows" = some (.ref f)) (B : Bi mg) (c_is_list : Cal P w K mg base 1 "is_list" spIsList []) (c_is_lot : Cal P w K mg base 3 "is_lot" spIsLot []) : Cal P w K mg base 4 "checked_rows" spRowsA [] := by
  refine mkCal F g sc_checked_rows (fun _ _ _ _ _ _ us hl => match us, hl with | [_, _], _ => rfl) (fun vs H Q E h => ?_) (fun cdv A outer s H vs Q E hr h => ?_)
  · obtain ⟨size, p, rs, ms, rfl, _⟩ := h
    rfl
  · obtain ⟨size, p, rs, ms, rfl, hz, hp, hL, hnd, hne, hlt, hlen, q⟩ := h
    have h64 := pow64 (n := size) (by omega)
    have hlt64 : ∀ m ∈ ms, m < 64 := fun m hm => Nat.lt_of_lt_of_le (hlt m hm) h64
    have hrl : rs.length = ms.length := hL.1
    have hpos : 0 < ms.length := List.length_pos_iff.mpr hne
    refine ⟨_, (pss_cons (ps_if (pt_not (pt_val (pe_c c_is_list hr (by decide) rfl (pa_cons (pv 1) pa_nil)))) (pss_one ps_never) pss_nil) (pss_cons (ps_if (pt_cmpR on_eq (pe_callB call_len_seq (by rfl) B.len (by decide +kernel) (pa_cons (pv 1) pa_nil)) (pe_nat 0 pe_int) (nomark _)) (pss_one ps_never) pss_nil) (pss_cons (ps_set (i := 2) sc_checked_rows.nd rfl (by first | exact Or.inl rfl | exact Or.inr rfl) pe_dnewT) (pss_cons (ps_for PassesOwn.never rfl (pi_enumA (by rfl) B.enumerate (pa_cons (pv 1) pa_nil)) (pg_tup rfl (pgs_cons (pg_name (i := 3) sc_checked_rows.nd rfl (by first | exact Or.inl rfl | exact Or.inr rfl)) (pgs_cons (pg_name (i := 4) sc_checked_rows.nd rfl (by first | exact Or.inl rfl | exact Or.inr rfl)) pgs_nil))) (pss_cons (ps_set (i := 5) sc_checked_rows.nd rfl (by first | exact Or.inl rfl | exact Or.inr rfl) (pe_ifExp (pt_val (pe_c c_is_lot hr (by decide) rfl (pa_cons (pv 4) (pa_cons (pv 0) pa_nil)))) (pe_callTy call_tuple_of (by rfl) B.tuple (by decide +kernel) (pa_cons (pe_callB cr_sortedA (by rfl) B.sorted (by decide +kernel) (pa_cons (pv 4) pa_nil)) pa_nil)) pe_non)) (pss_cons (ps_if (PW.pt (pw_or (pt_cmp (pc_isN (pv 5))) (pw_or1 (pt_cmp (pc_din (hu_of hr) (pv 5) (pv 2)))))) (pss_one ps_never) pss_nil) (pss_one (ps_dput (hu_of hr) (pv 2) (pv 5) pe_bl rfl))))) (pss_one (ps_ret (pe_callTy (call_list_dT rfl) (by rfl) B.list (by decide +kernel) (pa_cons (pv 2) pa_nil)))))))), ?_⟩
    refine ⟨.ref p, rfl, p, rs, rfl, hp, fun H1 e1 => ⟨true, rfl, ?_⟩⟩
    refine iteF ?_
    refine ⟨.ref p, rfl, p, rs, rfl, (hp.imp (fun z => sq_of (e1 _ _ z)) (fun z => st_of (e1 _ _ z))), rs.length, 0, rfl, rfl, _, rfl, ?_⟩
    refine ite2 (fun hb => absurd (of_decide_eq_true hb) (by omega)) (fun _ => ?_)
    intro d hd
    have e12 := e1
    have hdH := fresh_back e12 hd
    have ed := Ex.new (o := .dT []) hd
    rcases hp with hp | hp
    · refine ⟨.ref p, rfl, p, rs, rfl, .inl ⟨sq_of (ed _ _ (e12 _ _ hp)), for_enumL (fun i σ H' => Ex H H' ∧ H' d = some (.dT (kvF (ms.take i))) ∧ ∃ v3 v4 v5, σ = [some (.int size), some (.ref p), some (.ref d), v3, v4, v5]) ⟨e12.trans ed, upd_same, _, _, _, rfl⟩ (fun i σ H' _ h => sq_of (h.1 _ _ hp)) ?_ ?_⟩⟩
      · rintro i x σ H' T hx ⟨e0, h0, v3, v4, v5, rfl⟩ hT
        have hi : i < ms.length := by rw [← hrl]; exact (List.getElem?_eq_some_iff.mp hx).1
        have hn : ms[i]? = some ms[i] := List.getElem?_eq_some_iff.mpr ⟨hi, rfl⟩
        have eT := Ex.new (o := .tup [.int (i : Nat), x]) hT
        obtain ⟨b, ns, rfl, hb0, hpm⟩ := hL.2 i x ms[i] hx hn
        have hb := (hb0.ex e0).ex eT
        have hm := List.getElem_mem hi
        have hnin : ms[i] ∉ ms.take i := fun h => by
          obtain ⟨j, hj, e2⟩ := List.getElem_of_mem h
          rw [List.length_take] at hj
          rw [List.getElem_take] at e2
          exact (List.pairwise_iff_getElem.mp hnd) j i (by omega) hi (by omega) e2
        have htk : ms.take (i + 1) = ms.take i ++ [ms[i]] := by rw [List.take_add_one, hn]; rfl
        generalize ms[i] = m at hpm hm hnin htk hn
        have lo := lot_ok (hlt m hm) (by omega)
        have lok : LotOk size ns := ⟨hpm.nodup_iff.mpr lo.1.1, fun n hn => lo.1.2.1 n (hpm.mem_iff.mp hn), lo.1.2.2⟩
        refine ⟨T, [.int (i : Nat), .ref b], rfl, st_of upd_same, rfl, _, _, rfl, _, _, rfl, rfl, ?_⟩
        have e3 := e0.trans eT
        have h3 := eT _ _ h0
        generalize upd H' T (.tup [.int (i : Nat), .ref b]) = H3 at e3 h3 hb
        refine ⟨.ref b, rfl, .int size, rfl, b, ns, size, rfl, hb, lok, fun H4 e4 => ⟨true, rfl, ?_⟩⟩
        refine ⟨.ref b, rfl, b, castL ns, rfl, (hb.imp (fun z => sq_of (by rw [e4 _ _ z, cast_nv])) (fun z => st_of (by rw [e4 _ _ z, cast_nv]))), fun is l i3 i4 hl => ⟨l, is.map V.int, rfl, .inl ⟨sq_of upd_same, fun r hr => ?_⟩⟩⟩
        have his : is.map V.int = nv (lotF m) := by
          obtain ⟨js, rfl⟩ : ∃ js : List Nat, is = js.map fun n => ((n : Nat) : Int) := by
            refine ⟨is.map Int.toNat, ?_⟩
            rw [List.map_map]
            have : ∀ i ∈ is, ((fun n => ((n : Nat) : Int)) ∘ Int.toNat) i = id i := fun i hi => by
              obtain ⟨n, _, rfl⟩ := List.mem_map.mp (i3.mem_iff.mp hi)
              rfl
            rw [List.map_congr_left this, List.map_id]
          have h5 : js.Perm (lotF m) := by
            have := i3.map Int.toNat
            unfold castL at this
            exact (by simpa [List.map_map, Function.comp_def] using this : js.Perm ns).trans hpm
          have h6 : js.Pairwise (· ≤ ·) := by
            rw [List.pairwise_map] at i4
            exact i4.imp fun h => by omega
          rw [sorted_eq h5 h6 lo.2]
          unfold nv; rw [List.map_map]; rfl
        rw [his] at hr ⊢
        have e5 := e4.trans ((Ex.new (o := .lst (nv (lotF m))) hl).trans (Ex.new (o := .tup (nv (lotF m))) hr))
        have hr5 : upd (upd H4 l (.lst (nv (lotF m)))) r (.tup (nv (lotF m))) r = some (.tup (nv (lotF m))) := upd_same
        generalize upd (upd H4 l (.lst (nv (lotF m)))) r (.tup (nv (lotF m))) = H5 at e5 hr5
        have h5 := e5 _ _ h3
        have hkey : H5 r = some (.tup ((keyL m).map kV)) := by rw [key_nv]; exact hr5
        have hv := kv_none (ms := ms.take i) (fun x hx => hlt64 x (List.mem_of_mem_take hx)) (hlt64 m hm) hnin
        have hput := kv_put (ms := ms.take i) (fun x hx => hlt64 x (List.mem_of_mem_take hx)) (hlt64 m hm) hnin
        refine ⟨.ref r, rfl, false, rfl, ?_⟩
        refine ⟨.ref r, rfl, .ref d, rfl, d, _, rfl, .inr ⟨kvF (ms.take i), keyL m, r, .inl h5, rfl, hkey, rfl⟩, ?_⟩
        rw [hv]
        refine ⟨false, rfl, ?_⟩
        refine ⟨.ref d, rfl, .ref r, rfl, d, _, rfl, .inr ⟨kvF (ms.take i), keyL m, r, h5, rfl, hkey, ?_, rfl⟩, ?_⟩
        · unfold kvF
          rw [List.length_map, List.length_take]
          exact sz_lt (by omega)
        · refine ⟨Ex.mut (e3.trans e5) hdH, ?_, _, _, _, rfl⟩
          rw [upd_same, hput, ← htk]
      · rintro σ H' ⟨e0, h0, v3, v4, v5, rfl⟩
        rw [hrl, List.take_length] at h0
        refine ⟨.ref d, rfl, d, kvF ms, rfl, .inl h0, fun l bs hl hk => ?_⟩
        exact q l (bs.map V.ref) _ (fresh_back e0 hl) (e0.trans (Ex.new hl)) upd_same (upd_lots (keys_lots hk) hl)
    · refine ⟨.ref p, rfl, p, rs, rfl, .inr ⟨st_of (ed _ _ (e12 _ _ hp)), for_enumA (fun i σ H' => Ex H H' ∧ H' d = some (.dT (kvF (ms.take i))) ∧ ∃ v3 v4 v5, σ = [some (.int size), some (.ref p), some (.ref d), v3, v4, v5]) ⟨e12.trans ed, upd_same, _, _, _, rfl⟩ (fun i σ H' _ h => st_of (h.1 _ _ hp)) ?_ ?_⟩⟩
      · rintro i x σ H' T hx ⟨e0, h0, v3, v4, v5, rfl⟩ hT
        have hi : i < ms.length := by rw [← hrl]; exact (List.getElem?_eq_some_iff.mp hx).1
        have hn : ms[i]? = some ms[i] := List.getElem?_eq_some_iff.mpr ⟨hi, rfl⟩
        have eT := Ex.new (o := .tup [.int (i : Nat), x]) hT
        obtain ⟨b, ns, rfl, hb0, hpm⟩ := hL.2 i x ms[i] hx hn
        have hb := (hb0.ex e0).ex eT
        have hm := List.getElem_mem hi
        have hnin : ms[i] ∉ ms.take i := fun h => by
          obtain ⟨j, hj, e2⟩ := List.getElem_of_mem h
          rw [List.length_take] at hj
          rw [List.getElem_take] at e2
          exact (List.pairwise_iff_getElem.mp hnd) j i (by omega) hi (by omega) e2
        have htk : ms.take (i + 1) = ms.take i ++ [ms[i]] := by rw [List.take_add_one, hn]; rfl
        generalize ms[i] = m at hpm hm hnin htk hn
        have lo := lot_ok (hlt m hm) (by omega)
        have lok : LotOk size ns := ⟨hpm.nodup_iff.mpr lo.1.1, fun n hn => lo.1.2.1 n (hpm.mem_iff.mp hn), lo.1.2.2⟩
        refine ⟨T, [.int (i : Nat), .ref b], rfl, st_of upd_same, rfl, _, _, rfl, _, _, rfl, rfl, ?_⟩
        have e3 := e0.trans eT
        have h3 := eT _ _ h0
        generalize upd H' T (.tup [.int (i : Nat), .ref b]) = H3 at e3 h3 hb
        refine ⟨.ref b, rfl, .int size, rfl, b, ns, size, rfl, hb, lok, fun H4 e4 => ⟨true, rfl, ?_⟩⟩
        refine ⟨.ref b, rfl, b, castL ns, rfl, (hb.imp (fun z => sq_of (by rw [e4 _ _ z, cast_nv])) (fun z => st_of (by rw [e4 _ _ z, cast_nv]))), fun is l i3 i4 hl => ⟨l, is.map V.int, rfl, .inl ⟨sq_of upd_same, fun r hr => ?_⟩⟩⟩
        have his : is.map V.int = nv (lotF m) := by
          obtain ⟨js, rfl⟩ : ∃ js : List Nat, is = js.map fun n => ((n : Nat) : Int) := by
            refine ⟨is.map Int.toNat, ?_⟩
            rw [List.map_map]
            have : ∀ i ∈ is, ((fun n => ((n : Nat) : Int)) ∘ Int.toNat) i = id i := fun i hi => by
              obtain ⟨n, _, rfl⟩ := List.mem_map.mp (i3.mem_iff.mp hi)
              rfl
            rw [List.map_congr_left this, List.map_id]
          have h5 : js.Perm (lotF m) := by
            have := i3.map Int.toNat
            unfold castL at this
            exact (by simpa [List.map_map, Function.comp_def] using this : js.Perm ns).trans hpm
          have h6 : js.Pairwise (· ≤ ·) := by
            rw [List.pairwise_map] at i4
            exact i4.imp fun h => by omega
          rw [sorted_eq h5 h6 lo.2]
          unfold nv; rw [List.map_map]; rfl
        rw [his] at hr ⊢
        have e5 := e4.trans ((Ex.new (o := .lst (nv (lotF m))) hl).trans (Ex.new (o := .tup (nv (lotF m))) hr))
        have hr5 : upd (upd H4 l (.lst (nv (lotF m)))) r (.tup (nv (lotF m))) r = some (.tup (nv (lotF m))) := upd_same
        generalize upd (upd H4 l (.lst (nv (lotF m)))) r (.tup (nv (lotF m))) = H5 at e5 hr5
        have h5 := e5 _ _ h3
        have hkey : H5 r = some (.tup ((keyL m).map kV)) := by rw [key_nv]; exact hr5
        have hv := kv_none (ms := ms.take i) (fun x hx => hlt64 x (List.mem_of_mem_take hx)) (hlt64 m hm) hnin
        have hput := kv_put (ms := ms.take i) (fun x hx => hlt64 x (List.mem_of_mem_take hx)) (hlt64 m hm) hnin
        refine ⟨.ref r, rfl, false, rfl, ?_⟩
        refine ⟨.ref r, rfl, .ref d, rfl, d, _, rfl, .inr ⟨kvF (ms.take i), keyL m, r, .inl h5, rfl, hkey, rfl⟩, ?_⟩
        rw [hv]
        refine ⟨false, rfl, ?_⟩
        refine ⟨.ref d, rfl, .ref r, rfl, d, _, rfl, .inr ⟨kvF (ms.take i), keyL m, r, h5, rfl, hkey, ?_, rfl⟩, ?_⟩
        · unfold kvF
          rw [List.length_map, List.length_take]
          exact sz_lt (by omega)
        · refine ⟨Ex.mut (e3.trans e5) hdH, ?_, _, _, _, rfl⟩
          rw [upd_same, hput, ← htk]
      · rintro σ H' ⟨e0, h0, v3, v4, v5, rfl⟩
        rw [hrl, List.take_length] at h0
        refine ⟨.ref d, rfl, d, kvF ms, rfl, .inl h0, fun l bs hl hk => ?_⟩
        exact q l (bs.map V.ref) _ (fresh_back e0 hl) (e0.trans (Ex.new hl)) upd_same (upd_lots (keys_lots hk) hl)
def spFamA (CF : Addr) : Sp := fun vs H Q _ => ∃ (x p dx : Addr) (size : Nat) (rs : List V) (ms : List Nat), vs = [.ref x, .int size, .ref p] ∧ H x = some (.ins CF dx []) ∧ 1 ≤ size ∧ size ≤ 5 ∧ (H p = some (.lst rs) ∨ H p = some (.tup rs)) ∧ LotsP H rs ms ∧ ms.Nodup ∧ ms ≠ [] ∧ (∀ m ∈ ms, m < 1 <<< size) ∧ ms.length ≤ 64 ∧
  ∀ H' fm, XB x H H' → fm.Perm ms → (fm.map lotF).Pairwise lexLe → FamAt H' CF x size fm → FamIn H' CF x fm → Q .non H'
theorem m_FamilyA (C : FC K CF) (M : Mk K CF f) (hm : mg "Family" = some (.ref CF)) (F : FunD K "__init__" "Family.__init__" (defArgs (inClass (top 30) 0)) (defBody (inClass (top 30) 0)) (defScope (inClass (top 30) 0)) [] [] f fd) (B : Bi mg) (c_check_family_size : Cal P w K mg base 2 "check_family_size" spSize []) (c_checked_rowsA : Cal P w K mg base 4 "checked_rows" spRowsA []) : Mak P w K mg base 5 "Family" CF (spFamA CF) [] := by
  refine mkMak M hm F sc_Family___init (fun _ _ _ _ _ _ us hl => match us, hl with | [_, _, _], _ => rfl) (fun vs H Q E h => ?_) (fun cdv A outer s H vs Q E hr h => ?_)
  · obtain ⟨x, p, dx, size, rs, ms, rfl, _⟩ := h
    rfl
  · obtain ⟨x, p, dx, size, rs, ms, rfl, hx, h1, h5, hp, hL, hnd, hne, hlt, hlen, q⟩ := h
    have h64 := pow64 (n := size) (by omega)
    have c_checked_rows := c_checked_rowsA
    refine ⟨_, (pss_cons (ps_fld (pv 0) (pe_c c_check_family_size hr (by decide) rfl (pa_cons (pv 1) pa_nil)) rfl) (pss_cons (ps_fld (pv 0) (pe_callTy call_tuple_of (by rfl) B.tuple (by decide +kernel) (pa_cons (pe_callB (cr_sortLots hr.units) (by rfl) B.sorted (by decide +kernel) (pa_cons (pe_c c_checked_rows hr (by decide) rfl (pa_cons (pv 1) (pa_cons (pv 2) pa_nil))) pa_nil)) pa_nil)) rfl) (pss_one (ps_fld (pv 0) (pe_dLots rfl (Nat.lt_of_succ_lt (hu_of hr)) (blkOk_by (own := [("lot", 3)]) (N := ["self", "size", "lots", "lot"]) (sc := defScope (inClass (top 30) 0)) (by decide +kernel)) (pe_fld (pv 0) rfl)) rfl)))), ?_⟩
    refine s_fldV (D := { nx := _, rt := _, bk := _, ct := _ }) (ev_call (ea_cons (ev_v 1) ea_nil) fun H2 e2 Q2 q2 E2 => ⟨size, rfl, h1, by omega, q2⟩) rfl hx C.cls C.a1 (by decide) fun H1 e1 => ?_
    have hx1 := e1 _ _ hx
    have hpx : p ≠ x := fun e => by rw [e, hx] at hp; rcases hp with hp | hp <;> cases hp
    have b2 : XB x H1 (upd H1 x (.ins CF dx (putF "size" (.int size) []))) := fun b o n h => by rw [upd_ne n]; exact h
    have hx2 : upd H1 x (.ins CF dx (putF "size" (.int size) [])) x = some (.ins CF dx (putF "size" (.int size) [])) := upd_same
    generalize upd H1 x (.ins CF dx (putF "size" (.int size) [])) = H2 at b2 hx2
    have p2 := hp.imp (fun z => b2 _ _ hpx (e1 _ _ z)) (fun z => b2 _ _ hpx (e1 _ _ z))
    have LL2 := (hL.ex e1).xb hx1 b2
    refine ⟨.int size, rfl, .ref p, rfl, size, p, rs, ms, rfl, h5, p2, LL2, hnd, hne, hlt, hlen, fun l rs3 H3 hl e3 h3 L3 => ?_⟩
    obtain ⟨k, k1, k2⟩ := sortLots_at (K := K) L3
    refine ⟨l, rs3, k, rfl, sq_of h3, k1, fun rs4 q4 y1 y2 hq4 => ?_⟩
    obtain ⟨M, m1, m2, L4⟩ := k2 rs4 q4 y1 y2 hq4
    have e4 := Ex.new (o := .lst rs4) hq4
    have h4 : upd H3 q4 (.lst rs4) q4 = some (.lst rs4) := upd_same
    generalize upd H3 q4 (.lst rs4) = H4 at e4 h4 L4
    obtain ⟨fm, rfl, hfm⟩ := perm_lots m1 fun b hb => Nat.lt_of_lt_of_le (hlt b hb) h64
    refine ⟨q4, rs4, rfl, .inl ⟨sq_of h4, fun tl htl => ?_⟩⟩
    have e5 := Ex.new (o := .tup rs4) htl
    have hx5 := e5 _ _ (e4 _ _ (e3 _ _ hx2))
    have L5 := L4.ex e5
    have t5 : upd H4 tl (.tup rs4) tl = some (.tup rs4) := upd_same
    have htx : tl ≠ x := fun e => by rw [e, e4 _ _ (e3 _ _ hx2)] at htl; cases htl
    generalize upd H4 tl (.tup rs4) = H5 at e5 hx5 L5 t5
    refine ⟨.ref x, rfl, x, CF, dx, _, rfl, hx5, C.cls, C.a2, by show 1 < 1000; decide, ?_⟩
    have b6 : XB x H5 (upd H5 x (.ins CF dx (putF "lots" (.ref tl) (putF "size" (.int size) [])))) := fun b o n h => by rw [upd_ne n]; exact h
    have hx6 : upd H5 x (.ins CF dx (putF "lots" (.ref tl) (putF "size" (.int size) []))) x = some (.ins CF dx (putF "lots" (.ref tl) (putF "size" (.int size) []))) := upd_same
    generalize upd H5 x (.ins CF dx (putF "lots" (.ref tl) (putF "size" (.int size) []))) = H6 at b6 hx6
    have t6 := b6 _ _ htx t5
    have L6 := L5.xb hx5 b6
    have ka : KeysAt H6 rs4 (fm.map keyL) := by
      refine ⟨by rw [L6.1, List.length_map, List.length_map], fun i y hy => ?_⟩
      have hi : i < fm.length := by have := L6.1; rw [List.length_map] at this; rw [← this]; exact (List.getElem?_eq_some_iff.mp hy).1
      have hn : fm[i]? = some fm[i] := List.getElem?_eq_some_iff.mpr ⟨hi, rfl⟩
      obtain ⟨b, rfl, hb⟩ := L6.2 i y (lotF fm[i]) hy (by rw [List.getElem?_map, hn]; rfl)
      exact ⟨b, keyL fm[i], rfl, by rw [List.getElem?_map, hn]; rfl, by rw [key_nv]; exact hb⟩
    have hl4 : rs4.length < sizeLine := by
      have := L6.1
      rw [List.length_map, hfm.length_eq] at this
      exact sz_lt (by omega)
    refine ⟨.ref x, rfl, x, CF, dx, _, .ref tl, rfl, hx6, C.cls, C.a2, rfl, tl, rs4, fm.map keyL, rfl, st_of t6, ka, hl4, fun D hD => ⟨.ref x, rfl, x, CF, dx, _, rfl, Ex.new hD _ _ hx6, C.cls, C.a3, by show 2 < 1000; decide, ?_⟩⟩
    have e7 := Ex.new (o := .dT (dLots (.bl true) (fm.map keyL))) hD
    have b8 : XB x (upd H6 D (.dT (dLots (.bl true) (fm.map keyL)))) (upd (upd H6 D (.dT (dLots (.bl true) (fm.map keyL)))) x (.ins CF dx (putF "_inside" (.ref D) (putF "lots" (.ref tl) (putF "size" (.int size) []))))) := fun b o n h => by rw [upd_ne n]; exact h
    refine q _ fm (fun b o n h => b8 _ _ n (e7 _ _ (b6 _ _ n (e5 _ _ (e4 _ _ (e3 _ _ (b2 _ _ n (e1 _ _ h)))))))) hfm m2 ⟨dx, _, tl, rs4, upd_same, rfl, rfl, rfl, b8 _ _ htx (e7 _ _ t6), (L6.ex e7).xb (e7 _ _ hx6) b8⟩ ⟨dx, _, D, upd_same, rfl, rfl, b8 _ _ (fun e => by rw [e, hx6] at hD; cases hD) upd_same⟩
end
end W7
end
section
namespace W7
open PySem PySem.Spec PyProof.Rows L2 L3 Evl
open C8 (Cal pe_c Mak pe_mk Met pe_mt pe_mt0)
/-- some tuple with these things, new or known -/
def EvTup (te : TE) (σ : L2.St) (H : Hp) (ns : List Nat) : Prop := ∀ H1, Ex H H1 → ∀ Q : VK, (∀ r H2, Ex H1 H2 → TupV H2 r ns → Q r H2) → te σ H1 Q
section
variable {K : PySem.W.Frag} {σ : L2.St} {H : Hp} {te tl ts : TE} {tt : TT} {D : Ends}
theorem etup_U {ns : List Nat} (h : EvU te σ H (nv ns)) : EvTup te σ H ns := fun H1 e Q q => h H1 e _ fun p H2 hp e2 h2 => q (.ref p) H2 e2 ⟨p, rfl, h2⟩
theorem etup_v {r : V} {ns : List Nat} (i : Nat) (h : TupV H r ns) (hi : σ[i]? = some (some r) := by rfl) : EvTup (tVar i) σ H ns := fun H1 e Q q => ⟨r, hi, q r H1 (Ex.refl _) (h.ex e)⟩
/-- one turn of [te for r in rs if tt] -/
theorem lots_step {rs : List V} {L : List (List Nat)} {j : Nat} {vs : List Nat} {H1 : Hp} {Dl : Addr} (F : List Nat → Bool) (T : List Nat → List Nat) (hL : Lots H1 rs L) (hz : L.length ≤ 40000) (hw : ∀ x, wipe ((wipe σ vs).set j (some x)) vs = wipe σ vs)
    (ht : ∀ (r : V) (ns : List Nat) H2, Ex H1 H2 → TupV H2 r ns → ns ∈ L → EvT tt ((wipe σ vs).set j (some r)) H2 (F ns))
    (he : ∀ (r : V) (ns : List Nat) H2, Ex H1 H2 → TupV H2 r ns → ns ∈ L → F ns = true → EvTup te ((wipe σ vs).set j (some r)) H2 (T ns)) :
    ∀ i x H', rs[i]? = some x → (H1 Dl = none ∧ Ex H1 H' ∧ ∃ us, H' Dl = some (.lst us) ∧ Lots H' us (((L.take i).filter F).map T)) → gName j x (wipe σ vs) H' fun σ2 H2 => wipe σ2 vs = wipe σ vs ∧ tt σ2 H2 fun b H3 => if b = true then te σ2 H3 fun y H4 => ∃ acc, H4 Dl = some (.lst acc) ∧ acc.length < sizeLine ∧ (H1 Dl = none ∧ Ex H1 (upd H4 Dl (.lst (acc ++ [y]))) ∧ ∃ us, (upd H4 Dl (.lst (acc ++ [y]))) Dl = some (.lst us) ∧ Lots (upd H4 Dl (.lst (acc ++ [y]))) us (((L.take (i + 1)).filter F).map T)) else (H1 Dl = none ∧ Ex H1 H3 ∧ ∃ us, H3 Dl = some (.lst us) ∧ Lots H3 us (((L.take (i + 1)).filter F).map T)) := by
  intro i x H' hi ⟨p1, p2, us, p3, p4⟩
  have hl : i < L.length := by rw [← hL.1]; exact (List.getElem?_eq_some_iff.mp hi).1
  have hn : L[i]? = some L[i] := List.getElem?_eq_some_iff.mpr ⟨hl, rfl⟩
  have hm := List.getElem_mem hl
  have hx := (hL.2 i x _ hi hn).ex p2
  have htk : L.take (i + 1) = L.take i ++ [L[i]] := by rw [List.take_add_one, hn]; rfl
  generalize L[i] = ns at hn hm hx htk
  refine ⟨hw x, ht x ns H' p2 hx hm H' (Ex.refl _) _ fun H3 e3 => ?_⟩
  cases hf : F ns with
  | true =>
    show te _ H3 _
    refine he x ns H' p2 hx hm hf H3 e3 _ fun y H4 e4 hy => ⟨us, e4 _ _ (e3 _ _ p3), ?_, p1, Ex.mut (p2.trans (e3.trans e4)) p1, us ++ [y], upd_same, ?_⟩
    · have h1 := p4.1
      have h2 := List.length_filter_le F (L.take i)
      rw [List.length_map] at h1
      rw [List.length_take] at h2
      exact sz_lt (by omega)
    · have d4 := e4 _ _ (e3 _ _ p3)
      have keep : ∀ {r : V} {ms : List Nat}, TupV H4 r ms → TupV (upd H4 Dl (.lst (us ++ [y]))) r ms := fun {r ms} h => by
        obtain ⟨t, rfl, ht⟩ := h
        exact ⟨t, rfl, by rw [upd_ne (fun e5 => by rw [e5, d4] at ht; cases ht)]; exact ht⟩
      rw [htk, List.filter_append, List.map_append, List.filter_cons, if_pos hf]
      exact Lots.push ⟨p4.1, fun k r ms a1 a2 => keep ((p4.2 k r ms a1 a2).ex (e3.trans e4))⟩ (keep hy)
  | false =>
    show _ ∧ _ ∧ _
    refine ⟨p1, p2.trans e3, us, e3 _ _ p3, ?_⟩
    rw [htk, List.filter_append, List.filter_cons, if_neg (by rw [hf]; decide), List.filter_nil, List.append_nil]
    exact p4.ex e3
/-- [te for r in tl if tt], tl a tuple of lots | a tuple or a list -/
theorem el_lotsF {a : Addr} {rs : List V} {L : List (List Nat)} {j : Nat} {vs : List Nat} (F : List Nat → Bool) (T : List Nat → List Nat) (h : Ev tl σ H (.ref a)) (hx : SqT K H a rs) (hL : Lots H rs L) (hz : L.length ≤ 40000) (hw : ∀ x, wipe ((wipe σ vs).set j (some x)) vs = wipe σ vs)
    (ht : ∀ (r : V) (ns : List Nat) H2, Ex H H2 → TupV H2 r ns → ns ∈ L → EvT tt ((wipe σ vs).set j (some r)) H2 (F ns))
    (he : ∀ (r : V) (ns : List Nat) H2, Ex H H2 → TupV H2 r ns → ns ∈ L → F ns = true → EvTup te ((wipe σ vs).set j (some r)) H2 (T ns)) :
    EvLots (tLc (iTup K tl) (gName j) tt te vs) σ H ((L.filter F).map T) := fun H0 e Q q => h H0 e _ fun H1 e1 => ⟨a, rfl, ⟨rs, ex_t (e.trans e1) hx⟩, fun Dl hD =>
  lc_tup (xs := rs) (fun i H' => H1 Dl = none ∧ Ex H1 H' ∧ ∃ us, H' Dl = some (.lst us) ∧ Lots H' us (((L.take i).filter F).map T)) ⟨hD, Ex.new hD, [], upd_same, nil_lots⟩ (fun i H' _ p => ex_t ((e.trans e1).trans p.2.1) hx) (lots_step F T (hL.ex (e.trans e1)) hz hw (fun r ns H2 e2 => ht r ns H2 ((e.trans e1).trans e2)) (fun r ns H2 e2 => he r ns H2 ((e.trans e1).trans e2))) (fun H' ⟨p1, p2, us, p3, p4⟩ => q Dl us H' (fresh_back e1 p1) (e1.trans p2) p3 (by rw [hL.1, List.take_length] at p4; exact p4))⟩
theorem el_lotsS {a : Addr} {rs : List V} {L : List (List Nat)} {j : Nat} {vs : List Nat} (F : List Nat → Bool) (T : List Nat → List Nat) (h : Ev tl σ H (.ref a)) (hx : SqL K H a rs ∨ SqT K H a rs) (hL : Lots H rs L) (hz : L.length ≤ 40000) (hw : ∀ x, wipe ((wipe σ vs).set j (some x)) vs = wipe σ vs)
    (ht : ∀ (r : V) (ns : List Nat) H2, Ex H H2 → TupV H2 r ns → ns ∈ L → EvT tt ((wipe σ vs).set j (some r)) H2 (F ns))
    (he : ∀ (r : V) (ns : List Nat) H2, Ex H H2 → TupV H2 r ns → ns ∈ L → F ns = true → EvTup te ((wipe σ vs).set j (some r)) H2 (T ns)) :
    EvLots (tLc (iSeqA K tl) (gName j) tt te vs) σ H ((L.filter F).map T) := fun H0 e Q q => h H0 e _ fun H1 e1 => ⟨a, rfl, by
  have st := fun Dl => lots_step (Dl := Dl) F T (hL.ex (e.trans e1)) hz hw (fun r ns H2 e2 => ht r ns H2 ((e.trans e1).trans e2)) (fun r ns H2 e2 => he r ns H2 ((e.trans e1).trans e2))
  rcases hx with hx | hx
  · exact .inl ⟨⟨rs, ex_l (e.trans e1) hx⟩, fun Dl hD => lc_list (xs := rs) (fun i H' => H1 Dl = none ∧ Ex H1 H' ∧ ∃ us, H' Dl = some (.lst us) ∧ Lots H' us (((L.take i).filter F).map T)) ⟨hD, Ex.new hD, [], upd_same, nil_lots⟩ (fun i H' _ p => ex_l ((e.trans e1).trans p.2.1) hx) (st Dl) (fun H' ⟨p1, p2, us, p3, p4⟩ => q Dl us H' (fresh_back e1 p1) (e1.trans p2) p3 (by rw [hL.1, List.take_length] at p4; exact p4))⟩
  · exact .inr ⟨⟨rs, ex_t (e.trans e1) hx⟩, fun Dl hD => lc_tup (xs := rs) (fun i H' => H1 Dl = none ∧ Ex H1 H' ∧ ∃ us, H' Dl = some (.lst us) ∧ Lots H' us (((L.take i).filter F).map T)) ⟨hD, Ex.new hD, [], upd_same, nil_lots⟩ (fun i H' _ p => ex_t ((e.trans e1).trans p.2.1) hx) (st Dl) (fun H' ⟨p1, p2, us, p3, p4⟩ => q Dl us H' (fresh_back e1 p1) (e1.trans p2) p3 (by rw [hL.1, List.take_length] at p4; exact p4))⟩⟩
/-- a new family, told by what is in it -/
def RetFam (CF : Addr) (size : Nat) (S : Nat → Prop) (H : Hp) (Q : VK) : Prop := ∀ x H' fm, H x = none → Ex H H' → fm.Nodup → (∀ k, k ∈ fm ↔ S k) → (fm.map lotF).Pairwise lexLe → FamAt H' CF x size fm → FamIn H' CF x fm → FamOk size fm → Q (.ref x) H'
theorem RetFam.ex {CF : Addr} {size : Nat} {S : Nat → Prop} {H H1 : Hp} {Q : VK} (q : RetFam CF size S H Q) (e : Ex H H1) : RetFam CF size S H1 Q := fun x H' fm hx e1 => q x H' fm (fresh_back e hx) (e.trans e1)
theorem nd_len {ms : List Nat} {n : Nat} (nd : ms.Nodup) (hb : ∀ m ∈ ms, m < n) : ms.length ≤ n := by
  have h1 : ms.Perm ((List.range n).filter fun k => decide (k ∈ ms)) := (List.perm_ext_iff_of_nodup nd (List.nodup_range.filter _)).mpr fun k => by
    rw [List.mem_filter, decide_eq_true_eq, List.mem_range]
    exact ⟨fun h => ⟨hb k h, h⟩, fun h => h.2⟩
  have h2 := h1.length_eq
  have h3 := List.length_filter_le (fun k => decide (k ∈ ms)) (List.range n)
  rw [List.length_range] at h3
  omega
theorem mk_famA {CF : Addr} {Q : VK} {size : Nat} {S : Nat → Prop} (hs : Ev ts σ H (.int (size : Nat))) (h1 : 1 ≤ size) (h5 : size ≤ 5) (hne : ∃ k, S k) (hb : ∀ k, S k → k < 1 <<< size)
    (hl : ∀ H1, Ex H H1 → ∀ Q' : VK, (∀ p rs ms H2, Ex H1 H2 → (H2 p = some (.lst rs) ∨ H2 p = some (.tup rs)) → LotsP H2 rs ms → ms.Nodup → (∀ k, k ∈ ms ↔ S k) → Q' (.ref p) H2) → tl σ H1 Q') (q : RetFam CF size S H Q) : tMake CF (spFamA CF) [] C8.E0 (tCons ts (tCons tl tNil)) σ H Q := by
  have h64 := pow64 (n := size) (by omega)
  refine hs H (Ex.refl _) _ fun H1 e1 => hl H1 e1 _ fun p rs ms H5 e5 hp hL nd hS => fun x dx hx hdx hxd => ?_
  have e6 : Ex H5 (upd (upd H5 dx (.own x)) x (.ins CF dx [])) := fun b o h => by
    rw [upd_ne (fun e => by rw [e, hx] at h; cases h), upd_ne (fun e => by rw [e, hdx] at h; cases h)]; exact h
  have hbm : ∀ m ∈ ms, m < 1 <<< size := fun m hm => hb m ((hS m).mp hm)
  have hlen := nd_len nd hbm
  have hmn : ms ≠ [] := fun e => by
    obtain ⟨k, hk⟩ := hne
    have := (hS k).mpr hk
    rw [e] at this; cases this
  refine ⟨x, p, dx, size, rs, ms, rfl, upd_same, h1, h5, hp.imp (e6 _ _) (e6 _ _), hL.ex e6, nd, hmn, hbm, by omega, fun H7 fm xb hfm hpw fam fin => ⟨rfl, ?_⟩⟩
  have e7 : Ex H5 H7 := fun b o h => xb b o (fun e => by rw [e, hx] at h; cases h) (e6 _ _ h)
  exact q x H7 fm (fresh_back (e1.trans e5) hx) (e1.trans (e5.trans e7)) (hfm.nodup_iff.mpr nd) (fun k => hfm.mem_iff.trans (hS k)) hpw fam fin ⟨h1, h5, fun e => by rw [e] at hfm; exact hmn hfm.nil_eq.symm, fun m hm => hbm m (hfm.mem_iff.mp hm), by rw [hfm.length_eq]; omega⟩
end
end W7
end
section
namespace W7
open PySem PySem.Spec PyProof.Rows L2 L3 Evl
open C8 (Cal pe_c Mak pe_mk Met pe_mt pe_mt0)
/-! ### a thing dropped, a thing put between -/
def dropF (x m : Nat) : Nat := (m &&& ((1 <<< x) - 1)) ||| ((m >>> (x + 1)) <<< x)
def upF (x m : Nat) : Nat := (m &&& ((1 <<< x) - 1)) ||| ((m >>> x) <<< (x + 1))
def lefF (size x : Nat) : List Nat := (List.range size).filter fun y => !decide (y = x)
def rowF (size x : Nat) (ns : List Nat) : List Nat := (List.range (lefF size x).length).filter fun i => decide ((lefF size x).getD i 0 ∈ ns)
theorem drop_row : ∀ size : Nat, size < 6 → ∀ x : Nat, x < size → ∀ m : Nat, m < 1 <<< size → rowF size x (lotF m) = lotF (dropF x m) := by decide +kernel
theorem drop_lt : ∀ size : Nat, size < 6 → ∀ x : Nat, x < size → ∀ m : Nat, m < 1 <<< size → dropF x m < 1 <<< (size - 1) := by decide +kernel
theorem lef_len : ∀ size : Nat, size < 6 → ∀ x : Nat, x < size → (lefF size x).length = size - 1 := by decide +kernel
theorem mem_lot {m x : Nat} (hx : x < 12) : decide (x ∈ lotF m) = m.testBit x := by
  unfold lotF
  rw [Bool.eq_iff_iff, decide_eq_true_eq, List.mem_filter, List.mem_range]
  simp [hx]
section
variable {K : PySem.W.Frag} {σ : L2.St} {H : Hp} {ta tb te tl ts : TE} {tt : TT} {D : Ends}
/-- xs + ys, of tuples -/
theorem etup_cat {p1 p2 : Addr} {xs ys : List Nat} (ha : Ev ta σ H (.ref p1)) (hb : Ev tb σ H (.ref p2)) (h1 : H p1 = some (.tup (nv xs))) (h2 : H p2 = some (.tup (nv ys))) (hz : xs.length + ys.length ≤ 1000) : EvTup (tOp (rCatA K) ta tb) σ H (xs ++ ys) := fun H1 e Q q => ha H1 e _ fun H2 e2 => hb H2 (e.trans e2) _ fun H3 e3 => by
  have e23 := e2.trans e3
  have g1 := e23 _ _ (e _ _ h1)
  have g2 := e23 _ _ (e _ _ h2)
  have nil : ∀ {zs : List Nat}, nv zs = [] → zs = [] := fun {zs} h => by cases zs with | nil => rfl | cons a l => cases h
  refine ⟨p1, p2, nv xs, nv ys, rfl, rfl, st_of g1, st_of g2, by rw [nv_len, nv_len]; exact sz_of (by omega), fun h => ?_, fun h k => ?_, fun h k p hp => ?_⟩
  · rw [nil h, List.nil_append] at q
    exact q _ H3 e23 ⟨p2, rfl, g2⟩
  · rw [nil k, List.append_nil] at q
    exact q _ H3 e23 ⟨p1, rfl, g1⟩
  · refine q _ _ (e23.trans (Ex.new hp)) ⟨p, rfl, ?_⟩
    rw [upd_same]
    unfold nv
    rw [List.map_append]
theorem ev_lenTup {ns : List Nat} (h : EvTup te σ H ns) : Ev (tCB (rLenS K) (tCons te tNil)) σ H (.int (ns.length : Nat)) := fun H1 e Q q => h H1 e _ fun r H2 e2 ⟨t, hr, ht⟩ => by
  subst hr
  exact ⟨t, nv ns, rfl, .inr (st_of ht), by rw [nv_len]; exact q H2 e2⟩
theorem et_listT {p : Addr} {rs : List V} (h : Ev te σ H (.ref p)) (hs : H p = some (.lst rs)) (hne : rs ≠ []) : EvT (fun σ H Q => te σ H fun x H' => ∃ k, TruV K x H' k ∧ Q k H') σ H true := fun H1 e Q q => h H1 e _ fun H2 e2 => ⟨true, .inl ⟨rs, sq_of (e2 _ _ (e _ _ hs)), by cases rs with | nil => exact absurd rfl hne | cons a l => rfl⟩, q H2 e2⟩
/-- a list of lots that are masks -/
theorem masks_of {M : List (List Nat)} {S : Nat → Prop} (hM : ∀ l, l ∈ M ↔ ∃ k, S k ∧ l = lotF k) (hb : ∀ k, S k → k < 64) (nd : M.Nodup) : ∃ ms : List Nat, M = ms.map lotF ∧ ms.Nodup ∧ ∀ k, k ∈ ms ↔ S k := by
  have e : (M.map orF).map lotF = M := by
    rw [List.map_map]
    refine (List.map_congr_left fun l hl => ?_).trans (List.map_id M)
    obtain ⟨k, hk, rfl⟩ := (hM l).mp hl
    show lotF (orF (lotF k)) = lotF k
    rw [orF_lot k (hb k hk)]
  refine ⟨M.map orF, e.symm, ?_, fun k => ?_⟩
  · have : ((M.map orF).map lotF).Nodup := by rw [e]; exact nd
    exact this.of_map _ (fun a b h e => h (by rw [e]))
  · rw [List.mem_map]
    constructor
    · rintro ⟨l, hl, rfl⟩
      obtain ⟨j, hj, rfl⟩ := (hM l).mp hl
      rw [orF_lot j (hb j hj)]; exact hj
    · intro hk
      exact ⟨lotF k, (hM _).mpr ⟨k, hk, rfl⟩, orF_lot k (hb k hk)⟩
end
section
variable {P : Program} {w : World} {K : PySem.W.Frag} {mg : Str → Option Value} {base : Heap} {f : Addr} {fd : FuncData} {CF : Addr}
def spLeft (CF : Addr) : Sp := fun vs H Q _ => ∃ (a : Addr) (size : Nat) (fm : List Nat) (d : Nat), vs = [.ref a, .int d] ∧ FamAt H CF a size fm ∧ d < size ∧ RetV .non H Q
def spDropped (CF : Addr) : Sp := fun vs H Q _ => ∃ (a p d : Addr) (size x : Nat) (fm ms : List Nat) (rs : List V), vs = [.ref a, .ref p, .ref d] ∧ FamAt H CF a size fm ∧ 2 ≤ size ∧ size ≤ 5 ∧ (H p = some (.lst rs) ∨ H p = some (.tup rs)) ∧ Lots H rs (ms.map lotF) ∧ ms ≠ [] ∧ (∀ m ∈ ms, m < 1 <<< size) ∧ ms.length < 64 ∧ H d = some (.tup (nv [x])) ∧ x < size ∧
  RetFam CF (size - 1) (fun k => ∃ m ∈ ms, k = dropF x m) H Q
end
end W7
end
section
namespace W7
open PySem PySem.Spec PyProof.Rows L2 L3 Evl
open C8 (Cal pe_c Mak pe_mk Met pe_mt pe_mt0)
def keepB (is os : List Nat) (ns : List Nat) : Bool := (is.all fun y => decide (y ∈ ns)) && !(os.any fun y => decide (y ∈ ns))
section
variable {P : Program} {w : World} {K : PySem.W.Frag} {mg : Str → Option Value} {base : Heap} {f : Addr} {fd : FuncData} {CF : Addr}
def spHeld (CF : Addr) : Sp := fun vs H Q _ => ∃ (a p1 p2 : Addr) (size x : Nat) (fm is os : List Nat), vs = [.ref a, .ref p1, .ref p2] ∧ FamAt H CF a size fm ∧ FamOk size fm ∧ 2 ≤ size ∧ H p1 = some (.tup (nv is)) ∧ H p2 = some (.tup (nv os)) ∧ is ++ os = [x] ∧ x < size ∧ fm.length < 64 ∧ (∃ m ∈ fm, keepB is os (lotF m) = true) ∧
  RetFam CF (size - 1) (fun k => ∃ m ∈ fm, keepB is os (lotF m) = true ∧ k = dropF x m) H Q
theorem bit12 {m x : Nat} (hx : x < 5) : (decide (x ∈ lotF m)) = m.testBit x := mem_lot (by omega)
def spOut (CF : Addr) (b : Bool) : Sp := fun vs H Q _ => ∃ (a : Addr) (size x : Nat) (fm : List Nat), vs = [.ref a, .int x] ∧ FamAt H CF a size fm ∧ FamOk size fm ∧ 2 ≤ size ∧ x < size ∧ fm.length < 64 ∧ (∃ m ∈ fm, m.testBit x = b) ∧ RetFam CF (size - 1) (fun k => ∃ m ∈ fm, m.testBit x = b ∧ k = dropF x m) H Q
theorem keep_out {m x : Nat} (hx : x < 5) : keepB [] [x] (lotF m) = true ↔ m.testBit x = false := by
  unfold keepB
  have := bit12 (m := m) hx
  simp only [List.all_nil, List.any_cons, List.any_nil, Bool.or_false, Bool.true_and, this]
  cases m.testBit x <;> simp
theorem keep_in {m x : Nat} (hx : x < 5) : keepB [x] [] (lotF m) = true ↔ m.testBit x = true := by
  unfold keepB
  have := bit12 (m := m) hx
  simp only [List.all_cons, List.all_nil, List.any_nil, Bool.and_true, Bool.not_false, this]
theorem RetFam.iff {size : Nat} {S T : Nat → Prop} {H : Hp} {Q : VK} (q : RetFam CF size S H Q) (e : ∀ k, S k ↔ T k) : RetFam CF size T H Q := fun x H' fm hx e1 nd hm => q x H' fm hx e1 nd fun k => (hm k).trans (e k).symm
def spForgetAll (CF : Addr) : Sp := fun vs H Q _ => ∃ (a p : Addr) (size x : Nat) (fm : List Nat), vs = [.ref a, .ref p] ∧ FamAt H CF a size fm ∧ FamOk size fm ∧ 2 ≤ size ∧ LotA H p [x] ∧ x < size ∧ fm.length < 64 ∧ RetFam CF (size - 1) (fun k => ∃ m ∈ fm, k = dropF x m) H Q
def spForget (CF : Addr) : Sp := fun vs H Q _ => ∃ (a : Addr) (size x : Nat) (fm : List Nat), vs = [.ref a, .int x] ∧ FamAt H CF a size fm ∧ FamOk size fm ∧ 2 ≤ size ∧ x < size ∧ fm.length < 64 ∧ RetFam CF (size - 1) (fun k => ∃ m ∈ fm, k = dropF x m) H Q
end
end W7
end
section
namespace W7
open PySem PySem.Spec PyProof.Rows L2 L3 Evl
open C8 (Cal pe_c Mak pe_mk Met pe_mt pe_mt0)
def upL (x : Nat) (ns : List Nat) : List Nat := ns.map fun y => if x ≤ y then y + 1 else y
theorem up_row : ∀ x : Nat, x < 6 → ∀ m : Nat, m < 32 → upL x (lotF m) = lotF (upF x m) := by decide +kernel
theorem up_lt : ∀ size : Nat, size < 6 → ∀ x : Nat, x < size + 1 → ∀ m : Nat, m < 1 <<< size → upF x m < 1 <<< (size + 1) ∧ (upF x m) ||| (1 <<< x) < 1 <<< (size + 1) := by decide +kernel
theorem up_perm : ∀ x : Nat, x < 6 → ∀ m : Nat, m < 32 → (upL x (lotF m) ++ [x]).Perm (lotF ((upF x m) ||| (1 <<< x))) := by decide +kernel
theorem up_inj : ∀ x : Nat, x < 6 → ∀ m : Nat, m < 32 → dropF x (upF x m) = m ∧ dropF x ((upF x m) ||| (1 <<< x)) = m ∧ (upF x m).testBit x = false ∧ ((upF x m) ||| (1 <<< x)).testBit x = true := by decide +kernel
theorem LotsP.app {H : Hp} {rs us : List V} {ms ns : List Nat} (h : LotsP H rs ms) (k : LotsP H us ns) : LotsP H (rs ++ us) (ms ++ ns) := by
  refine ⟨by rw [List.length_append, List.length_append, h.1, k.1], fun i r m a b => ?_⟩
  by_cases hi : i < rs.length
  · rw [List.getElem?_append_left hi] at a
    rw [List.getElem?_append_left (by rw [← h.1]; exact hi)] at b
    exact h.2 i r m a b
  · rw [List.getElem?_append_right (by omega)] at a
    rw [List.getElem?_append_right (by rw [← h.1]; omega), ← h.1] at b
    exact k.2 _ r m a b
theorem Lots.asP {H : Hp} {rs : List V} {ms : List Nat} {T : Nat → List Nat} {U : Nat → Nat} (h : Lots H rs (ms.map T)) (e : ∀ m ∈ ms, (T m).Perm (lotF (U m))) : LotsP H rs (ms.map U) := by
  refine ⟨by rw [h.1, List.length_map, List.length_map], fun i r k a b => ?_⟩
  rw [List.getElem?_map] at b
  obtain ⟨m, hm, rfl⟩ := Option.map_eq_some_iff.mp b
  obtain ⟨p, c, d⟩ := h.2 i r (T m) a (by rw [List.getElem?_map, hm]; rfl)
  exact ⟨p, T m, c, .inr d, e m (List.mem_of_getElem? hm)⟩
section
variable {K : PySem.W.Frag} {σ : L2.St} {H : Hp} {ta tb te tl ts : TE} {tt : TT} {D : Ends}
theorem etup_catU {p1 : Addr} {xs ys : List Nat} (ha : Ev ta σ H (.ref p1)) (h1 : H p1 = some (.tup (nv xs))) (hb : EvU tb σ H (nv ys)) (hz : xs.length + ys.length ≤ 1000) : EvTup (tOp (rCatA K) ta tb) σ H (xs ++ ys) := fun H1 e Q q => ha H1 e _ fun H2 e2 => hb H2 (e.trans e2) _ fun p2 H3 hp2 e3 h3 => by
  have e23 := e2.trans e3
  have g1 := e23 _ _ (e _ _ h1)
  have nil : ∀ {zs : List Nat}, nv zs = [] → zs = [] := fun {zs} h => by cases zs with | nil => rfl | cons a l => cases h
  refine ⟨p1, p2, nv xs, nv ys, rfl, rfl, st_of g1, st_of h3, by rw [nv_len, nv_len]; exact sz_of (by omega), fun h => ?_, fun h k => ?_, fun h k p hp => ?_⟩
  · rw [nil h, List.nil_append] at q
    exact q _ H3 e23 ⟨p2, rfl, h3⟩
  · rw [nil k, List.append_nil] at q
    exact q _ H3 e23 ⟨p1, rfl, g1⟩
  · refine q _ _ (e23.trans (Ex.new hp)) ⟨p, rfl, ?_⟩
    rw [upd_same]
    unfold nv
    rw [List.map_append]
theorem elots_call {sp : Sp} {E : XK} {as : TA} {vs : List V} {L : List (List Nat)} (h : EvA as σ H vs) (hs : ∀ H1, Ex H H1 → ∀ Q : VK, RetLots L H1 Q → sp vs H1 Q E) : EvLots (tCall sp [] E as) σ H L := fun H1 e Q q => h H1 e _ fun H2 e2 => by
  rw [List.append_nil]
  exact hs H2 (e.trans e2) Q fun p rs H3 hp e3 h3 L3 => q p rs H3 (fresh_back e2 hp) (e2.trans e3) h3 L3
/-- [te for r in tl if tt], tl a new list of lots -/
theorem el_lotsNew {L : List (List Nat)} {j : Nat} {vs : List Nat} (F : List Nat → Bool) (T : List Nat → List Nat) (h : EvLots tl σ H L) (hz : L.length ≤ 40000) (hw : ∀ x, wipe ((wipe σ vs).set j (some x)) vs = wipe σ vs)
    (ht : ∀ (r : V) (ns : List Nat) H2, Ex H H2 → TupV H2 r ns → ns ∈ L → EvT tt ((wipe σ vs).set j (some r)) H2 (F ns))
    (he : ∀ (r : V) (ns : List Nat) H2, Ex H H2 → TupV H2 r ns → ns ∈ L → F ns = true → EvTup te ((wipe σ vs).set j (some r)) H2 (T ns)) :
    EvLots (tLc (iList K tl) (gName j) tt te vs) σ H ((L.filter F).map T) := fun H0 e Q q => h H0 e _ fun a rs H1 ha e1 hx hL => ⟨a, rfl, ⟨rs, sq_of hx⟩, fun Dl hD =>
  lc_list (xs := rs) (fun i H' => H1 Dl = none ∧ Ex H1 H' ∧ ∃ us, H' Dl = some (.lst us) ∧ Lots H' us (((L.take i).filter F).map T)) ⟨hD, Ex.new hD, [], upd_same, nil_lots⟩ (fun i H' _ p => sq_of (p.2.1 _ _ hx)) (lots_step F T hL hz hw (fun r ns H2 e2 => ht r ns H2 ((e.trans e1).trans e2)) (fun r ns H2 e2 => he r ns H2 ((e.trans e1).trans e2))) (fun H' ⟨p1, p2, us, p3, p4⟩ => q Dl us H' (fresh_back e1 p1) (e1.trans p2) p3 (by rw [hL.1, List.take_length] at p4; exact p4))⟩
end
section
variable {P : Program} {w : World} {K : PySem.W.Frag} {mg : Str → Option Value} {base : Heap} {f : Addr} {fd : FuncData} {CF : Addr}
def spMoved : Sp := fun vs H Q _ => ∃ (p : Addr) (x : Nat) (rs : List V) (L : List (List Nat)), vs = [.ref p, .int x] ∧ H p = some (.tup rs) ∧ Lots H rs L ∧ L.length ≤ 1000 ∧ (∀ l ∈ L, l.length ≤ 1000) ∧ RetLots (L.map (upL x)) H Q
def spStacked (CF : Addr) : Sp := fun vs H Q _ => ∃ (a b : Addr) (size x : Nat) (fm gm : List Nat), vs = [.ref a, .ref b, .int x] ∧ FamAt H CF a size fm ∧ FamOk size fm ∧ FamAt H CF b size gm ∧ FamOk size gm ∧ size ≤ 4 ∧ x < size + 1 ∧ fm.Nodup ∧ gm.Nodup ∧
  RetFam CF (size + 1) (fun k => (∃ m ∈ fm, k = upF x m) ∨ ∃ m ∈ gm, k = (upF x m) ||| (1 <<< x)) H Q
end
end W7
end
section
namespace W7
open PySem PySem.Spec PyProof.Rows L2 L3 Evl PySem.W
section
variable {X : Cx}
/-- min(xs), a list of data of one form: some one of them -/
def rMinD (K : PySem.W.Frag) : List V → Hp → VK → Prop := fun vs H Q => ∃ (p : Addr) (xs : List V) (ds : List PyData), vs = [V.ref p] ∧ SqL K H p xs ∧ DpAll K H xs ds ∧ AlikeAll ds ∧ ds ≠ [] ∧ PyData.depthAll ds ≤ 60 ∧ ∀ v ∈ xs, Q v H
theorem cr_minD (hc : X.calm = true) (hu : X.A.units + 64 < cLine) : CallR X (.builtin "min") (rMinD X.K) := by
  intro pins s σ H vs us Q I r ⟨p, xs, ds, e, hl, hd, al, hne, dep, q⟩
  subst e
  rw [Vals.ref1 r]
  obtain ⟨its, rv, is, _⟩ := I.list hl
  obtain ⟨as, rs⟩ := Dp.readsAll I ds xs its hd rv
  obtain ⟨d, dt, rfl⟩ := List.exists_cons_of_ne_nil hne
  refine min_list_data (I.ok.hd hc) is.isList (by simpa using rs) al (by omega) fun i v h' tk bs hi _ keep => ?_
  have hi2 : its[i]? = some v := by simpa using hi
  have hil := (List.getElem?_eq_some_iff.mp hi2).1
  obtain ⟨x, hx⟩ : ∃ x, xs[i]? = some x := by
    cases hxx : xs[i]? with
    | some x => exact ⟨x, rfl⟩
    | none => rw [Vals.none_of rv hxx] at hi2; cases hi2
  obtain ⟨u, hu2, ru⟩ := Vals.get rv hx
  obtain rfl : u = v := Option.some.inj (hu2.symm.trans hi2)
  exact ⟨x, H, I.kept keep, ru, q x (List.mem_of_getElem? hx)⟩
end
end W7
end
section
namespace W7
open PySem PySem.Spec PyProof.Rows L2 L3 Evl PySem.W
open C8 (Cal pe_c Mak pe_mk Met pe_mt pe_mt0)
/-! ### the first break of any family -/
def condB (size : Nat) (fm : List Nat) (o : Nat) : Bool := decide (lowF size fm o ≠ 0) && !decide (o ∈ fm)
def badR (size : Nat) (fm : List Nat) (o : Nat) : List Nat := fm.filter fun m => !decide (((m ^^^ o) &&& lowF size fm o) ≠ 0)
def RowsD (H : Hp) (kvs : List (Key × V)) (size : Nat) (fm : List Nat) (n : Nat) : Prop := ∀ o : Nat, ((o < n ∧ condB size fm o = true) → ∃ l, valV kvs (.inl (o : Int)) = some (.ref l) ∧ H l = some (.lst (nv (badR size fm o)))) ∧ (¬(o < n ∧ condB size fm o = true) → valV kvs (.inl (o : Int)) = none)
theorem RowsD.ex {H H' : Hp} {kvs : List (Key × V)} {size : Nat} {fm : List Nat} {n : Nat} (h : RowsD H kvs size fm n) (e : Ex H H') : RowsD H' kvs size fm n := fun o => ⟨fun c => ((h o).1 c).elim fun l z => ⟨l, z.1, e _ _ z.2⟩, (h o).2⟩
theorem rows_iff {size : Nat} {fm : List Nat} : RowsOk size fm ↔ ∀ o, o < 1 <<< size → condB size fm o = true → badR size fm o = [] := by
  unfold RowsOk condB badR
  constructor
  · intro h o ho hc
    obtain ⟨c1, c2⟩ := Bool.and_eq_true_iff.mp hc
    rw [List.filter_eq_nil_iff]
    intro m hm
    simp [h o ho (of_decide_eq_true c1) (by simpa using c2) m hm]
  · intro h o ho c1 c2 m hm hx
    have h1 := h o ho (by simp [c1, c2])
    rw [List.filter_eq_nil_iff] at h1
    exact h1 m hm (by simp [hx])
/-- a row that is not empty is met from a lot of the family -/
theorem rows_met {size : Nat} {fm : List Nat} (h5 : size ≤ 5) {o : Nat} (hc : condB size fm o = true) : ∃ m ∈ fm, ∃ x, x < size ∧ m ^^^ (1 <<< x) = o := by
  obtain ⟨c1, _⟩ := Bool.and_eq_true_iff.mp hc
  obtain ⟨x, hx⟩ := Nat.exists_testBit_of_ne_zero (of_decide_eq_true c1)
  rw [low_tb] at hx
  obtain ⟨a, b⟩ := Bool.and_eq_true_iff.mp hx
  exact ⟨_, of_decide_eq_true b, x, of_decide_eq_true a, back o (1 <<< x)⟩
def FoundAt (H : Hp) (us : List V) : Prop := ∀ u ∈ us, ∃ t b ns x, u = .ref t ∧ H t = some (.tup [.ref b, .int ((x : Nat) : Int)]) ∧ H b = some (.tup (nv ns))
theorem FoundAt.ex {H H' : Hp} {us : List V} (h : FoundAt H us) (e : Ex H H') : FoundAt H' us := fun u hu => by
  obtain ⟨t, b, ns, x, h1, h2, h3⟩ := h u hu
  exact ⟨t, b, ns, x, h1, e _ _ h2, e _ _ h3⟩
theorem FoundAt.mut {H : Hp} {us : List V} {l : Addr} {zs ys : List V} (h : FoundAt H us) (hl : H l = some (.lst zs)) : FoundAt (upd H l (.lst ys)) us := fun u hu => by
  obtain ⟨t, b, ns, x, h1, h2, h3⟩ := h u hu
  exact ⟨t, b, ns, x, h1, by rw [upd_ne (fun e => by rw [e, hl] at h2; cases h2)]; exact h2, by rw [upd_ne (fun e => by rw [e, hl] at h3; cases h3)]; exact h3⟩
def fndD (z : List Nat × Nat) : PyData := .tuple [rowD z.1, .int ((z.2 : Nat) : Int)]
theorem found_data {K : PySem.W.Frag} {H : Hp} : ∀ {us : List V}, FoundAt H us → ∃ zs : List (List Nat × Nat), DpAll K H us (zs.map fndD) ∧ zs.length = us.length
  | [], _ => ⟨[], .nil, rfl⟩
  | u :: us, h => by
    obtain ⟨zs, h1, h2⟩ := found_data (us := us) fun v hv => h v (List.mem_cons_of_mem _ hv)
    obtain ⟨t, b, ns, x, rfl, ht, hb⟩ := h u List.mem_cons_self
    exact ⟨(ns, x) :: zs, .cons (.tup (st_of ht) (.cons (.tup (st_of hb) (dp_nats ns)) (.cons (.int _) .nil))) h1, by simp [h2]⟩
theorem ints_alike : ∀ ns ms : List Int, alikeAll (ns.map PyData.int) (ms.map PyData.int) = true
  | [], _ => by simp [alikeAll]
  | _ :: ns, [] => by unfold alikeAll; rfl
  | n :: ns, m :: ms => by simp [alikeAll, alike, ints_alike ns ms]
theorem fnd_alike (z u : List Nat × Nat) : alike (fndD z) (fndD u) = true := by
  have := ints_alike (z.1.map fun n => ((n : Nat) : Int)) (u.1.map fun n => ((n : Nat) : Int))
  simp only [fndD, rowD, alike, alikeAll, Bool.and_true, this]
theorem fnd_depth : ∀ zs : List (List Nat × Nat), PyData.depthAll (zs.map fndD) ≤ 3
  | [] => Nat.zero_le 3
  | z :: zs => by
    have h1 := fnd_depth zs
    have h2 := PySem.W.depthAll_ints (z.1.map fun n => ((n : Nat) : Int))
    rw [List.map_cons]
    simp only [PyData.depthAll, fndD, rowD, PyData.depth] at *
    omega
section
variable {K : PySem.W.Frag} {σ : L2.St} {H : Hp} {ta te : TE} {D : Ends}
theorem s_appP {l : Addr} {xs : List V} {R : Addr → Hp → Prop} (hl : H l = some (.lst xs)) (ha : Ev ta σ H (.ref l)) (h : ∀ H1, Ex H H1 → ∀ Q : VK, (∀ t H2, Ex H1 H2 → R t H2 → Q (.ref t) H2) → te σ H1 Q) (hz : xs.length < 100000) (k : ∀ t H1, Ex H H1 → R t H1 → D.nx σ (upd H1 l (.lst (xs ++ [.ref t])))) : tDrop (tBM K "list" rAppend ta (tCons te tNil)) D σ H :=
  ha H (Ex.refl _) _ fun H1 e1 => ⟨.inl ⟨rfl, xs, sq_of (e1 _ _ hl)⟩, h H1 e1 _ fun t H2 e2 r => ⟨l, xs, .ref t, rfl, rfl, e2 _ _ (e1 _ _ hl), sz_lt hz, k t H2 (e1.trans e2) r⟩⟩
end
section
variable {P : Program} {w : World} {K : PySem.W.Frag} {mg : Str → Option Value} {base : Heap} {f : Addr} {fd : FuncData} {CF CA : Addr}
def spUngG (CF : Addr) : Sp := fun vs H Q _ => ∃ (a : Addr) (size : Nat) (fm : List Nat), vs = [.ref a] ∧ FamAt H CF a size fm ∧ FamOk size fm ∧ ∀ d H' kvs, H d = none → Ex H H' → H' d = some (.dK kvs) → RowsD H' kvs size fm (1 <<< size) → Q (.ref d) H'
theorem c_ungated_rowsG (C : FC K CF) (F : FnP K "ungated_rows" (top 36) f fd) (g : mg "ungated_rows" = some (.ref f)) (B : Bi mg) (c_family_masks : Cal P w K mg base 2 "family_masks" (spFm K CF fun _ fm => nv fm) []) (c_inside_row : Cal P w K mg base 3 "inside_row" (spFm K CF fun size fm => bv (insF size fm)) []) (c_lowering_mask : Cal P w K mg base 2 "lowering_mask" spLow []) : Cal P w K mg base 4 "ungated_rows" (spUngG CF) [] := by
  refine mkCal F g sc_ungated_rows (fun _ _ _ _ _ _ us hl => match us, hl with | [_], _ => rfl) (fun vs H Q E h => ?_) (fun cdv A outer s H vs Q E hr h => ?_)
  · obtain ⟨a, size, fm, rfl, _⟩ := h
    rfl
  · obtain ⟨a, size, fm, rfl, hf, ok, q⟩ := h
    have hz := ok.s5
    have h64 := pow64 (n := size) (by omega)
    refine ⟨_, (pss_cons (ps_set (i := 1) sc_ungated_rows.nd rfl (by first | exact Or.inl rfl | exact Or.inr rfl) (pe_c c_family_masks hr (by decide) rfl (pa_cons (pv 0) pa_nil))) (pss_cons (ps_set (i := 2) sc_ungated_rows.nd rfl (by first | exact Or.inl rfl | exact Or.inr rfl) (pe_c c_inside_row hr (by decide) rfl (pa_cons (pv 0) pa_nil))) (pss_cons (ps_set (i := 3) sc_ungated_rows.nd rfl (by first | exact Or.inl rfl | exact Or.inr rfl) pe_dnewK) (pss_cons (ps_for PassesOwn.never rfl (pi_range1 rfl B.range (pa_cons (pe_callB call_len_seq (by rfl) B.len (by decide +kernel) (pa_cons (pv 2) pa_nil)) pa_nil)) (pg_name (i := 4) sc_ungated_rows.nd rfl (by first | exact Or.inl rfl | exact Or.inr rfl)) (pss_cons (ps_set (i := 5) sc_ungated_rows.nd rfl (by first | exact Or.inl rfl | exact Or.inr rfl) (pe_c c_lowering_mask hr (by decide) rfl (pa_cons (pe_fld (pv 0) rfl) (pa_cons (pv 2) (pa_cons (pv 4) pa_nil))))) (pss_one (ps_if (PW.pt (pw_and (pt_truthK (K := K) rfl (pv 5) (fun _ => rfl)) (pw_and1 (pt_not (pt_val (pe_ix (on_ix (K := K)) (pv 2) (pv 4) (fun _ _ => rfl))))))) (pss_one (ps_dput (hu_of hr) (pv 3) (pv 4) (pe_lc (own := [("mask", 6)]) (g := gName 6) (by rfl) sc_ungated_rows.nd (pi_list (pv 1)) (blkOk_by (own := [("mask", 6)]) (N := ["family", "masks", "inside", "rows", "outer", "lowering", "mask"]) (sc := defScope (top 36)) (by decide +kernel)) (fun _ _ _ _ _ => (pg_name (i := 6) sc_ungated_rows.nd rfl (by first | exact Or.inl rfl | exact Or.inr rfl))) (fun _ _ _ _ _ => (pts_one (pt_not (pt_truthK (K := K) rfl (pe_op on_and (pe_op on_xor (pv 6) (pv 4)) (pv 5)) (fun _ => rfl))))) (fun _ _ _ _ _ => (pv 6))) rfl)) pss_nil)))) (pss_one (ps_ret (pv 3))))))), ?_⟩
    refine q_asgL (el_call (ea_cons (ev_v 0) ea_nil) fun H2 e2 Q2 q2 E2 => ⟨a, size, fm, rfl, hf.ex e2, ok, q2⟩) fun p H1 hp1 e1 h1 => ?_
    refine q_asgL (el_call (ea_cons (ev_v 0) ea_nil) fun H2 e2 Q2 q2 E2 => ⟨a, size, fm, rfl, (hf.ex e1).ex e2, ok, q2⟩) fun r H2 hr2 e2 h2 => ?_
    intro d hd
    have hdH : H d = none := fresh_back (e1.trans e2) hd
    have hil : (bv (insF size fm)).length = 1 <<< size := by rw [bv_len]; unfold insF; simp
    have ed := Ex.new (o := .dK []) hd
    have s0 := hf.ex (e1.trans e2)
    refine q_forR1 (n := ((1 <<< size : Nat) : Int)) (ea_cons (ev_is (ev_len (ev_v 2) (sq_of (ed _ _ h2))) (by rw [hil])) ea_nil) (by omega) (fun i σ H' => Ex H2 H' ∧ ∃ kvs v4 v5 v6, H' d = some (.dK kvs) ∧ kvs.length ≤ i ∧ RowsD H' kvs size fm i ∧ σ = [some (.ref a), some (.ref p), some (.ref r), some (.ref d), v4, v5, v6]) (fun H3 e3 => ⟨ed.trans e3, [], _, _, _, e3 _ _ upd_same, by simp, (fun o => ⟨fun c => absurd c.1 (Nat.not_lt_zero o), fun _ => rfl⟩), rfl⟩) ?_ ?_
    · rintro i σ H' hi ⟨e3, kvs, v4, v5, v6, h3, hk, hE, rfl⟩
      have his : i < 1 <<< size := by omega
      refine q_asg (ev_call (ea_cons (ev_size (s0.ex e3) C (ev_v 0)) (ea_cons (ev_v 2) (ea_cons (ev_v 4) ea_nil))) fun H4 e4 Q4 q4 E4 => ⟨size, r, fm, i, rfl, hz, e4 _ _ (e3 _ _ h2), his, q4⟩) fun H4 e4 => ?_
      refine s_when (b := decide (lowF size fm i ≠ 0) && !decide (i ∈ fm)) (et_and (et_truth (ev_v 5)) fun _ => et_not (et_B (ev_ix (sq_of (e4 _ _ (e3 _ _ h2))) (ev_v 2) (ev_v 4) (insF_get his)))) (fun hb H5 e5 => ?_) (fun hb H5 e5 => ⟨e3.trans (e4.trans e5), kvs, _, _, _, e5 _ _ (e4 _ _ h3), by omega, fun o => ?_, rfl⟩)
      rotate_left
      · refine ⟨fun c => ?_, fun c => (hE o).2 fun c2 => c ⟨by omega, c2.2⟩⟩
        have ho : o ≠ i := fun e => by
          have h1 := c.2
          rw [e] at h1
          rw [show condB size fm i = (decide (lowF size fm i ≠ 0) && !decide (i ∈ fm)) from rfl, hb] at h1
          cases h1
        obtain ⟨l2, z1, z2⟩ := (hE o).1 ⟨by omega, c.2⟩
        exact ⟨l2, z1, (e4.trans e5) _ _ z2⟩
      have hb1 : lowF size fm i ≠ 0 := of_decide_eq_true (Bool.and_eq_true_iff.mp hb).1
      have hb2 : i ∉ fm := by
        have := (Bool.and_eq_true_iff.mp hb).2
        simpa using this
      have el := el_nats (K := K) (te := tVar 6) (t := tNot (fun σ H Q => tOp (rN0 fun a b => .int ((a &&& b : Nat) : Int)) (tOp (rN0 fun a b => .int ((a ^^^ b : Nat) : Int)) (tVar 6) (tVar 4)) (tVar 5) σ H fun x H' => ∃ k, TruV K x H' k ∧ Q k H')) (tl := tVar 1) (j := 6) (vs := [6]) (σ := [some (.ref a), some (.ref p), some (.ref r), some (.ref d), some (.int (i : Int)), some (.int (lowF size fm i : Nat)), v6]) (H := H5) (fun m => !decide (((m ^^^ i) &&& lowF size fm i) ≠ 0)) (fun m => .int (m : Nat)) (ev_v 1) (sq_of (e5 _ _ (e4 _ _ (e3 _ _ (e2 _ _ h1))))) (by have := ok.len; omega) (fun _ => rfl) (fun m H6 e6 hm => et_not (et_truth (ev_n (ev_n (ev_v 6) (ev_v 4)) (ev_v 5)))) (fun m H6 e6 hm _ => ev_v 6)
      refine el H5 (Ex.refl _) _ fun l H6 hl e6 h6 => ⟨.ref d, rfl, .int (i : Int), rfl, d, _, rfl, .inl ⟨kvs, .inl (i : Int), e6 _ _ (e5 _ _ (e4 _ _ h3)), rfl, sz_lt (by omega), rfl⟩, ?_⟩
      have hd2 : H2 d = none := hd
      have hE6 := hE.ex (e4.trans (e5.trans e6))
      have d6 := e6 _ _ (e5 _ _ (e4 _ _ h3))
      have keep : ∀ {l2 : Addr} {ns : List V} {o : HO}, H6 l2 = some (.lst ns) → (upd H6 d o) l2 = some (.lst ns) := fun {l2 ns o} h => by
        rw [upd_ne (fun e => by rw [e, d6] at h; cases h)]; exact h
      refine ⟨Ex.mut (e3.trans (e4.trans (e5.trans e6))) hd2, _, _, _, _, upd_same, Nat.le_trans putK_len (by omega), fun o => ?_, rfl⟩
      rw [valV_put]
      by_cases ho : o = i
      · subst ho
        rw [if_pos rfl]
        refine ⟨fun _ => ⟨l, rfl, keep ?_⟩, fun c => absurd ⟨by omega, hb⟩ c⟩
        exact h6
      · rw [if_neg (fun e => ho (by injection e with e; omega))]
        refine ⟨fun c => ?_, fun c => (hE6 o).2 fun c2 => c ⟨by omega, c2.2⟩⟩
        obtain ⟨l2, z1, z2⟩ := (hE6 o).1 ⟨by omega, c.2⟩
        exact ⟨l2, z1, keep z2⟩
    · rintro σ H' ⟨e3, kvs, v4, v5, v6, h3, hk, hE, rfl⟩
      have e : (((1 <<< size : Nat) : Int)).toNat = 1 <<< size := by omega
      rw [e] at hE
      exact s_ret (ev_v 3) fun H4 e4 => q d H4 kvs hdH ((e1.trans e2).trans (e3.trans e4)) (e4 _ _ h3) (hE.ex e4)
def noB (size : Nat) (fm : List Nat) (o : Nat) : Prop := condB size fm o = true → badR size fm o = []
theorem et_listB {K : PySem.W.Frag} {σ : L2.St} {H : Hp} {te : TE} {p : Addr} {rs : List V} (h : Ev te σ H (.ref p)) (hs : H p = some (.lst rs)) : EvT (fun σ H Q => te σ H fun x H' => ∃ k, TruV K x H' k ∧ Q k H') σ H (!rs.isEmpty) := fun H1 e Q q => h H1 e _ fun H2 e2 => ⟨_, .inl ⟨rs, sq_of (e2 _ _ (e _ _ hs)), rfl⟩, q H2 e2⟩
def spFirstG (CF : Addr) : Sp := fun vs H Q _ => ∃ (a d : Addr) (size : Nat) (fm : List Nat) (kvs : List (Key × V)), vs = [.ref a, .ref d] ∧ FamAt H CF a size fm ∧ FamOk size fm ∧ H d = some (.dK kvs) ∧ RowsD H kvs size fm (1 <<< size) ∧ (RowsOk size fm → RetV .non H Q) ∧ (¬ RowsOk size fm → ∀ r H', Ex H H' → Q (.ref r) H')
theorem c_first_breakG (C : FC K CF) (F : FnP K "first_break" (top 37) f fd) (g : mg "first_break" = some (.ref f)) (B : Bi mg) (c_mask_of : Cal P w K mg base 1 "mask_of" spMaskOf []) (c_lot_from : Cal P w K mg base 1 "lot_from" spLotFrom []) : Cal P w K mg base 2 "first_break" (spFirstG CF) [] := by
  refine mkCal F g sc_first_break (fun _ _ _ _ _ _ us hl => match us, hl with | [_, _], _ => rfl) (fun vs H Q E h => ?_) (fun cdv A outer s H vs Q E hr h => ?_)
  · obtain ⟨a, d, size, fm, kvs, rfl, _⟩ := h
    rfl
  · obtain ⟨a, d, size, fm, kvs, rfl, hf, ok, hd, hE, q1, q2⟩ := h
    have hz := ok.s5
    refine ⟨_, (pss_cons (ps_for PassesOwn.never rfl (pi_tup (pe_fld (pv 0) rfl)) (pg_name (i := 2) sc_first_break.nd rfl (by first | exact Or.inl rfl | exact Or.inr rfl)) (pss_cons (ps_set (i := 3) sc_first_break.nd rfl (by first | exact Or.inl rfl | exact Or.inr rfl) (pe_lst pa_nil)) (pss_cons (ps_for PassesOwn.never rfl (pi_range1 rfl B.range (pa_cons (pe_fld (pv 0) rfl) pa_nil)) (pg_name (i := 4) sc_first_break.nd rfl (by first | exact Or.inl rfl | exact Or.inr rfl)) (pss_cons (ps_set (i := 5) sc_first_break.nd rfl (by first | exact Or.inl rfl | exact Or.inr rfl) (pe_op on_xor (pe_c c_mask_of hr (by decide) rfl (pa_cons (pv 2) pa_nil)) (pe_op on_shl (pe_nat 1 pe_int) (pv 4)))) (pss_one (ps_if (pt_truthK (K := K) rfl (pe_dget1 (hu_of hr) (pv 1) (pv 5) (by constructor <;> rfl)) (fun _ => rfl)) (pss_one (ps_expr (pe_bm PySem.F.plainAttrs_list PySem.F.slot_list_append PySem.F.type_list_append mt_append (pv 3) (pa_cons (pe_tup (pa_cons (pe_c c_lot_from hr (by decide) rfl (pa_cons (pe_ix (on_ix (K := K)) (pe_dget (hu_of hr) (pv 1) (pv 5) (fun _ _ => rfl)) (pe_nat 0 pe_int) (fun _ _ => rfl)) pa_nil)) (pa_cons (pv 4) pa_nil))) pa_nil)))) pss_nil)))) (pss_one (ps_if (pt_truthK (K := K) rfl (pv 3) (fun _ => rfl)) (pss_cons (ps_asg (pe_callB (cr_minD rfl hr.units) (by rfl) B.min (by decide +kernel) (pa_cons (pv 3) pa_nil)) (pg_tup rfl (pgs_cons (pg_name (i := 6) sc_first_break.nd rfl (by first | exact Or.inl rfl | exact Or.inr rfl)) (pgs_cons (pg_name (i := 4) sc_first_break.nd rfl (by first | exact Or.inl rfl | exact Or.inr rfl)) pgs_nil)))) (pss_one (ps_ret (pe_tup (pa_cons (pv 2) (pa_cons (pv 6) (pa_cons (pv 4) pa_nil))))))) pss_nil))))) (pss_one (ps_ret pe_non))), ?_⟩
    obtain ⟨dx, fs, tl, rs, h1, h2, h3, h4, h5, h6⟩ := id hf
    refine q_forT (xs := rs) (ev_fld (ev_v 0) h1 C.cls C.a2 h3) (st_of h5) (fun i σ H' => Ex H H' ∧ (∀ m ∈ fm.take i, ∀ x, x < size → noB size fm (m ^^^ (1 <<< x))) ∧ ∃ v2 v3 v4 v5 v6, σ = [some (.ref a), some (.ref d), v2, v3, v4, v5, v6]) (fun H2 e2 => ⟨e2, (fun m hm => by simp at hm), _, _, _, _, _, rfl⟩) (fun i σ H' _ h => st_of (h.1 _ _ h5)) ?_ ?_
    · rintro i x σ H' hx ⟨e0, hno, v2, v3, v4, v5, v6, rfl⟩
      have hlm : i < fm.length := by have := h6.1; rw [List.length_map] at this; rw [← this]; exact (List.getElem?_eq_some_iff.mp hx).1
      have hnm : fm[i]? = some fm[i] := List.getElem?_eq_some_iff.mpr ⟨hlm, rfl⟩
      obtain ⟨b, rfl, hb⟩ := (h6.2 i x (lotF fm[i]) hx (by rw [List.getElem?_map, hnm]; rfl)).ex e0
      have hm := List.getElem_mem hlm
      have htk : fm.take (i + 1) = fm.take i ++ [fm[i]] := by rw [List.take_add_one, hnm]; rfl
      generalize fm[i] = m at hb hm htk
      have hml := ok.lt m hm
      show tSeq _ _ _ [some (.ref a), some (.ref d), some (.ref b), v3, v4, v5, v6] H'
      refine q_asgL (el_lst ea_nil (by decide)) fun l H2 hl2 e2 hl3 => ?_
      have hf2 := hf.ex (e0.trans e2)
      refine q_forR1 (n := (size : Int)) (ea_cons (ev_size hf2 C (ev_v 0)) ea_nil) (by omega) (fun k σ H3 => Ex H' H3 ∧ (∃ us, H3 l = some (.lst us) ∧ FoundAt H3 us ∧ us.length ≤ k ∧ (us = [] → ∀ x, x < k → noB size fm (m ^^^ (1 <<< x))) ∧ (us ≠ [] → ¬ RowsOk size fm)) ∧ ∃ v4 v5, σ = [some (.ref a), some (.ref d), some (.ref b), some (.ref l), v4, v5, v6]) (fun H3 e3 => ⟨e2.trans e3, ⟨[], e3 _ _ hl3, (fun u hu => by cases hu), Nat.le_refl _, (fun _ x hx => absurd hx (Nat.not_lt_zero x)), fun h => absurd rfl h⟩, _, _, rfl⟩) ?_ ?_
      · rintro k σ H3 hk ⟨e3, ⟨us, hus, hF, hul, hnn, hbad⟩, v4, v5, rfl⟩
        have hks : k < size := by omega
        refine q_asg (ev_n (ev_call (ea_cons (ev_v 2) ea_nil) fun H4 e4 Q4 q4 E4 => ⟨b, lotF m, rfl, .inr (e4 _ _ (e3 _ _ hb)), fun x hx => by have := lotF_lt hx; omega, q4⟩) (ev_nc ev_c (ev_v 4) ⟨by decide, by omega⟩)) fun H4 e4 => ?_
        rw [orF_lot m (ok.lt64 m hm)]
        have ho : m ^^^ (1 <<< k) < 1 <<< size := tog_sh hml hks
        generalize hoe : m ^^^ (1 <<< k) = o at ho
        have e04 := e0.trans (e3.trans e4)
        have hd4 := e04 _ _ hd
        have hE4 := hE.ex e04
        have us4 := e4 _ _ hus
        have hF4 := hF.ex e4
        have fin : noB size fm o → Ex H' H4 ∧ (∃ us, H4 l = some (.lst us) ∧ FoundAt H4 us ∧ us.length ≤ k + 1 ∧ (us = [] → ∀ x, x < k + 1 → noB size fm (m ^^^ (1 <<< x))) ∧ (us ≠ [] → ¬ RowsOk size fm)) ∧ ∃ v4 v5, ([some (.ref a), some (.ref d), some (.ref b), some (.ref l), some (.int (k : Int)), some (.int ((o : Nat) : Int)), v6] : L2.St) = [some (.ref a), some (.ref d), some (.ref b), some (.ref l), v4, v5, v6] := fun hb2 => ⟨e3.trans e4, ⟨us, us4, hF4, by omega, fun hu x hx => by
          by_cases hxk : x = k
          · rw [hxk, hoe]; exact hb2
          · exact hnn hu x (by omega), hbad⟩, _, _, rfl⟩
        show tIfS _ _ _ _ [some (.ref a), some (.ref d), some (.ref b), some (.ref l), some (.int (k : Int)), some (.int ((o : Nat) : Int)), v6] H4
        refine ⟨.ref d, rfl, d, rfl, (.inl ⟨_, .inl hd4⟩), _, rfl, _, DGet.k (k := .inl _) hd4, ?_⟩
        by_cases hc : condB size fm o = true
        · obtain ⟨l2, g1, g2⟩ := (hE4 o).1 ⟨ho, hc⟩
          cases hbr : badR size fm o with
          | nil =>
            rw [hbr] at g2
            rw [g1]
            exact ⟨false, .inl ⟨[], sq_of g2, rfl⟩, fin fun _ => hbr⟩
          | cons m2 ms2 =>
            rw [hbr] at g2
            have hm2 : m2 ∈ fm := by
              have : m2 ∈ badR size fm o := by rw [hbr]; exact List.mem_cons_self
              exact (List.mem_filter.mp this).1
            have tr : TruV K ((valV kvs (.inl (o : Int))).getD .non) H4 true := by
              rw [g1]
              exact .inl ⟨nv (m2 :: ms2), sq_of g2, rfl⟩
            refine ⟨true, tr, ?_⟩
            refine s_appP (R := fun t H5 => ∃ c, H5 t = some (.tup [.ref c, .int ((k : Nat) : Int)]) ∧ H5 c = some (.tup (nv (lotF m2)))) us4 (ev_v 3) (fun H5 e5 Q5 q5 => ?_) (by omega) (fun t H5 e5 ⟨c, c1, c2⟩ => ?_)
            · have gv : DGet H5 d (.int ((o : Nat) : Int)) (some (.ref l2)) := by
                have := DGet.k (k := .inl (o : Int)) (e5 _ _ hd4)
                rwa [g1] at this
              refine ⟨.ref d, rfl, .int ((o : Nat) : Int), rfl, d, .ref l2, rfl, gv, l2, nv (m2 :: ms2), 0, .int ((m2 : Nat) : Int), rfl, rfl, sq_of (e5 _ _ g2), rfl, ?_⟩
              refine ⟨m2, rfl, by have := ok.lt64 m2 hm2; omega, fun c H6 hc6 e6 h6 => ⟨.int (k : Int), rfl, sz_of (by show 2 ≤ 100000; decide), fun t ht => ?_⟩⟩
              have e7 := Ex.new (o := .tup [.ref c, .int (k : Int)]) ht
              exact q5 t _ (e6.trans e7) ⟨c, upd_same, e7 _ _ h6⟩
            · have us5 := e5 _ _ us4
              have hlH : H' l = none := hl2
              refine ⟨Ex.mut ((e3.trans e4).trans e5) hlH, ⟨us ++ [.ref t], upd_same, ?_, by rw [List.length_append]; simp only [List.length_cons, List.length_nil]; omega, fun h => by simp at h, fun _ hro => ?_⟩, _, _, rfl⟩
              · intro u hu
                obtain hu | hu := List.mem_append.mp hu
                · exact (hF4.ex e5).mut us5 u hu
                · rw [List.mem_singleton.mp hu]
                  exact ⟨t, c, lotF m2, k, rfl, by rw [upd_ne (fun e => by rw [e, us5] at c1; cases c1)]; exact c1, by rw [upd_ne (fun e => by rw [e, us5] at c2; cases c2)]; exact c2⟩
              · have := rows_iff.mp hro o ho hc
                rw [hbr] at this; cases this
        · have g1 := (hE4 o).2 fun c => hc c.2
          rw [g1]
          exact ⟨false, rfl, fin fun c => absurd c hc⟩
      · rintro σ H3 ⟨e3, ⟨us, hus, hF, hul, hnn, hbad⟩, v4, v5, rfl⟩
        have es : ((size : Int)).toNat = size := by omega
        rw [es] at hnn
        refine s_when (b := !us.isEmpty) (et_listB (ev_v 3) hus) (fun hb2 H4 e4 => ?_) (fun hb2 H4 e4 => ⟨(e0.trans e3).trans e4, ?_, _, _, _, _, _, rfl⟩)
        · have une : us ≠ [] := fun e => by rw [e] at hb2; cases hb2
          have hF4 := hF.ex e4
          obtain ⟨zs, z1, z2⟩ := found_data (K := K) hF4
          have zne : zs ≠ [] := fun e => by
            rw [e] at z2
            exact une (List.eq_nil_of_length_eq_zero z2.symm)
          refine ⟨.ref l, rfl, l, us, zs.map fndD, rfl, sq_of (e4 _ _ hus), z1, ⟨fun x hx y hy => ?_, fun x hx => ?_⟩, by simpa using zne, Nat.le_trans (fnd_depth zs) (by decide), fun v hv => ?_⟩
          · obtain ⟨z, _, rfl⟩ := List.mem_map.mp hx
            obtain ⟨u, _, rfl⟩ := List.mem_map.mp hy
            exact fnd_alike z u
          · obtain ⟨z, _, rfl⟩ := List.mem_map.mp hx
            intro h; cases h
          · obtain ⟨t, c, ns, y, rfl, ht, hc⟩ := hF4 v hv
            refine ⟨t, _, rfl, st_of ht, rfl, _, _, rfl, _, _, rfl, rfl, ?_⟩
            refine s_retU (xs := [.ref b, .ref c, .int ((y : Nat) : Int)]) (eu_tup (ea_cons (ev_v 2) (ea_cons (ev_v 6) (ea_cons (ev_v 4) ea_nil))) (by show 3 ≤ 100000; decide)) fun r H5 hr5 e5 h5 => ?_
            exact q2 (hbad une) r H5 (((e0.trans e3).trans e4).trans e5)
        · intro m2 hm2 x hx
          rw [htk, List.mem_append] at hm2
          rcases hm2 with hm2 | hm2
          · exact hno m2 hm2 x hx
          · rw [List.mem_singleton.mp hm2]
            refine hnn ?_ x hx
            cases us with
            | nil => rfl
            | cons u us => cases hb2
    · rintro σ H' ⟨e0, hno, v2, v3, v4, v5, v6, rfl⟩
      rw [show rs.length = fm.length from by rw [h6.1, List.length_map], List.take_length] at hno
      refine s_ret ev_c fun H2 e2 => q1 (rows_iff.mpr fun o ho hc => ?_) H2 (e0.trans e2)
      obtain ⟨m, hm, x, hx, rfl⟩ := rows_met hz hc
      exact hno m hm x hx hc
def spGateG (CF : Addr) : Sp := fun vs H Q _ => ∃ (a : Addr) (size : Nat) (fm : List Nat), vs = [.ref a] ∧ FamAt H CF a size fm ∧ FamOk size fm ∧ (RowsOk size fm → RetV .non H Q) ∧ (¬ RowsOk size fm → ∀ r H', Ex H H' → Q (.ref r) H')
theorem c_find_breakG (C : FC K CF) (F : FnP K "find_break" (top 38) f fd) (g : mg "find_break" = some (.ref f)) (B : Bi mg) (c_ungated_rows : Cal P w K mg base 4 "ungated_rows" (spUngG CF) []) (c_first_break : Cal P w K mg base 2 "first_break" (spFirstG CF) []) : Cal P w K mg base 5 "find_break" (spGateG CF) [] := by
  refine mkCal F g sc_find_break (fun _ _ _ _ _ _ us hl => match us, hl with | [_], _ => rfl) (fun vs H Q E h => ?_) (fun cdv A outer s H vs Q E hr h => ?_)
  · obtain ⟨a, size, fm, rfl, _⟩ := h
    rfl
  · obtain ⟨a, size, fm, rfl, hf, ok, q1, q2⟩ := h
    refine ⟨_, (pss_one (ps_ret (pe_c c_first_break hr (by decide) rfl (pa_cons (pv 0) (pa_cons (pe_c c_ungated_rows hr (by decide) rfl (pa_cons (pv 0) pa_nil)) pa_nil))))), ?_⟩
    exact ⟨.ref a, rfl, .ref a, rfl, a, size, fm, rfl, hf, ok, fun d H1 kvs hd e1 h1 hE => ⟨a, d, size, fm, kvs, rfl, hf.ex e1, ok, h1, hE, fun hro H2 e2 => q1 hro H2 (e1.trans e2), fun hro r H2 e2 => q2 hro r H2 (e1.trans e2)⟩⟩
def spIsGated (CF : Addr) : Sp := fun vs H Q _ => ∃ (a : Addr) (size : Nat) (fm : List Nat) (b : Bool), vs = [.ref a] ∧ FamAt H CF a size fm ∧ FamOk size fm ∧ (b = true ↔ RowsOk size fm) ∧ RetV (.bl b) H Q
theorem sc_is_gated : FnScope ["family"] ["family"] (defScope (top 39)) := ⟨rfl, rfl, rfl, by decide +kernel, rfl, by decide +kernel, by decide +kernel⟩
theorem c_is_gated (F : FnP K "is_gated" (top 39) f fd) (g : mg "is_gated" = some (.ref f)) (B : Bi mg) (c_find_break : Cal P w K mg base 5 "find_break" (spGateG CF) []) : Cal P w K mg base 6 "is_gated" (spIsGated CF) [] := by
  refine mkCal F g sc_is_gated (fun _ _ _ _ _ _ us hl => match us, hl with | [_], _ => rfl) (fun vs H Q E h => ?_) (fun cdv A outer s H vs Q E hr h => ?_)
  · obtain ⟨a, size, fm, b, rfl, _⟩ := h
    rfl
  · obtain ⟨a, size, fm, b, rfl, hf, ok, hb, q⟩ := h
    refine ⟨_, (pss_one (ps_ret (pe_cmp (pc_isN (pe_c c_find_break hr (by decide) rfl (pa_cons (pv 0) pa_nil))) rfl))), ?_⟩
    refine ⟨.ref a, rfl, a, size, fm, rfl, hf, ok, fun hro H1 e1 => ?_, fun hro r H1 e1 => ?_⟩
    · rw [hb.mpr hro] at q
      exact q H1 e1
    · have hb2 : b = false := by
        cases b with
        | false => rfl
        | true => exact absurd (hb.mp rfl) hro
      rw [hb2] at q
      exact q H1 e1
end
end W7
end
section
namespace W7
open PySem PySem.Spec PyProof.Rows L2 L3 Evl PySem.W
open C8 (Met)
section
variable {X : Cx}
/-- a == b and the like, by an own method of a class whose instances both are -/
def rCmpI (C : Addr) (sp : Sp) : R2 := fun x y H Q => ∃ a dx fs b dy gs, x = .ref a ∧ y = .ref b ∧ H a = some (.ins C dx fs) ∧ H b = some (.ins C dy gs) ∧ sp [x, y] H Q C8.E0
theorem op_cmpI {op : CmpOp} {k j : Nat} {C : Addr} {sp : Sp} (hop : ∀ a b, compareOp op a b = richCompare op a b) (m : Met X.prog X.w X.K X.mg X.base k C (cmpInfo op).2.1 sp []) (hr : Room j X.A) (hk : k ≤ j) : OpR X (compareOp op) (rCmpI C sp) := by
  intro pins s σ H x y v u Q I rx ry ⟨a, dx, fs, b, dy, gs, ex, ey, ha, hb, q⟩
  subst ex
  subst ey
  obtain rfl : v = .ref a := rx
  obtain rfl : u = .ref b := ry
  obtain ⟨f, fd, ps, ds, cls, me, F, bd, vd⟩ := m.ex
  obtain ⟨mA, oa, _⟩ := ins_get I.hok ha
  obtain ⟨mB, ob, _⟩ := ins_get I.hok hb
  obtain ⟨oda, ia, _⟩ := oa.look
  obtain ⟨odb, ib, _⟩ := ob.look
  obtain ⟨mm, fr⟩ := I.fr
  have raw := F.raw bd vd
  have hun : X.A.units < cLine := by have := hr.un; omega
  rw [hop]
  refine cmp_K (tb := .ref C) hun fr I.mod.kin ia (fun A Q E s keep q => ?_) (by unfold notFirst; simp) me.at_ me.fn ?_
  · exact wpAny_typeOf_ref (keep _ _ ib.at_) (by rw [ib.cls]; exact q)
  · refine wpAny_call ?_
    refine codeAny_mono (run_fnR (Q := Q) (E := C8.E0) raw (hr.mono hk) C8.pass0 I (us := [.ref a, .ref b]) (vs := [.ref a, .ref b]) (.cons rfl (.cons rfl .nil)) (by simpa using q)) fun r s' h => ?_
    match r, h with
    | .ok (.ret v), h =>
      obtain ⟨z, H', I', rz, hz⟩ := h
      exact SlX.cmpback rz ⟨z, H', I', rz, hz⟩
    | .error e, h => exact h
end
end W7
end
section
namespace W7
open PySem PySem.Spec PyProof.Rows L2 L3 Evl PySem.W
open C8 (Met)
theorem fills_tup_xor : fillsNumberSlot (.type "tuple") "xor" = pure false := by rfl
theorem fills_lst_xor : fillsNumberSlot (.type "list") "xor" = pure false := by rfl
section
variable {K : Frag} {s : Shared} {w : World} {prog : Program} {E : Value → Shared → Prop} {A : Around}
theorem bin_xor {a p C f : Addr} {ox o : Obj} {od : Option Obj} {cd : ClassData} {rest : List Value} {T : String} {Q : Value → Shared → Prop} (X : K.In s.heap) (I : PySem.W.InstAt s.heap a ox C od) (hp : s.heap.get? p = some o) (hc : o.cls = .type T) (hT : fillsNumberSlot (.type T) "xor" = pure false) (hcl : clsIn K C = some cd) (hm : cd.mro = .ref C :: rest) (hs : findIn K (.ref C) (PySem.dunder "xor") = some (some (.ref f))) (hf : isFn K (.ref f) = true)
    (h : wpAny (model prog w) A (call (.ref f) [.ref a, .ref p]) (PySem.W.CmpBack Q) E s) : wpAny (model prog w) A (binaryOp .BitXor (.ref a) (.ref p)) Q E s := by
  have one : wpAny (model prog w) A (binaryOp1 "xor" (.ref a) (.ref p)) (fun r s' => ∃ v, r = some v ∧ Q v s') E s := by
    unfold binaryOp1
    dsimp only
    refine wpAny_bind (wpAny_typeOf_ref I.at_ ?_)
    refine wpAny_bind (wpAny_typeOf_ref hp ?_)
    rw [I.cls, hc]
    refine wpAny_bind (fills_K X hcl hm hs A _ E s (fun _ _ h => h) ?_)
    rw [if_neg (by simp)]
    refine wpAny_bind ?_
    rw [hT]
    refine wpAny_pure ?_
    simp only [Bool.and_false, Bool.false_and, Bool.false_eq_true, ↓reduceIte]
    apply wpAny_bind
    apply wpAny_pure
    rw [if_neg (by decide : ¬ (false = true))]
    refine wpAny_bind (wpAny_mono (ksp_try X I hs hf h) (fun r s' hr => ?_) fun _ _ e => e)
    obtain ⟨v, rfl, hv⟩ := hr
    exact wpAny_pure ⟨v, rfl, hv⟩
  unfold binaryOp
  refine wpAny_holding ?_
  dsimp only [Operator.info]
  refine wpAny_bind (wpAny_mono one (fun r s' hr => ?_) fun _ _ e => e)
  obtain ⟨v, rfl, hv⟩ := hr
  exact wpAny_pure hv
end
section
variable {X : Cx}
theorem self_first {K : Frag} {C : Addr} (h : selfFirst K C = true) : ∃ cd rest, clsIn K C = some cd ∧ cd.mro = .ref C :: rest := by
  unfold selfFirst at h
  cases hc : clsIn K C with
  | none =>
    rw [hc] at h
    cases h
  | some cd =>
    rw [hc] at h
    have h2 : (cd.mro.head? == some (Value.ref C)) = true := h
    cases hm : cd.mro with
    | nil => rw [hm] at h2; cases h2
    | cons v rest =>
      rw [hm] at h2
      have : v = .ref C := by simpa using h2
      exact ⟨cd, rest, rfl, by rw [hm, this]⟩
/-- a ^ xs, by an own method, xs a list or a tuple -/
def rXorI (K : Frag) (C : Addr) (sp : Sp) : R2 := fun x y H Q => ∃ a dx fs p xs, x = .ref a ∧ y = .ref p ∧ H a = some (.ins C dx fs) ∧ (SqL K H p xs ∨ SqT K H p xs) ∧ sp [x, y] H Q C8.E0
theorem op_xorI {k j : Nat} {C : Addr} {sp : Sp} (m : Met X.prog X.w X.K X.mg X.base k C (PySem.dunder "xor") sp []) (sf : selfFirst X.K C = true) (hr : Room j X.A) (hk : k ≤ j) : OpR X (binaryOp .BitXor) (rXorI X.K C sp) := by
  intro pins s σ H x y v u Q I rx ry ⟨a, dx, fs, p, xs, ex, ey, ha, hp, q⟩
  subst ex
  subst ey
  obtain rfl : v = .ref a := rx
  obtain rfl : u = .ref p := ry
  obtain ⟨f, fd, ps, ds, cls, me, F, bd, vd⟩ := m.ex
  obtain ⟨mA, oa, _⟩ := ins_get I.hok ha
  obtain ⟨oda, ia, _⟩ := oa.look
  obtain ⟨cd, rest, hcl, hm⟩ := self_first sf
  have raw := F.raw bd vd
  have run : wpAny (model X.prog X.w) X.A (call (.ref f) [.ref a, .ref p]) (PySem.W.CmpBack (EP X pins σ Q)) X.xe s := by
    refine wpAny_call ?_
    refine codeAny_mono (run_fnR (Q := Q) (E := C8.E0) raw (hr.mono hk) C8.pass0 I (us := [.ref a, .ref p]) (vs := [.ref a, .ref p]) (.cons rfl (.cons rfl .nil)) (by simpa using q)) fun r s' h => ?_
    match r, h with
    | .ok (.ret v), h =>
      obtain ⟨z, H', I', rz, hz⟩ := h
      exact SlX.cmpback rz ⟨z, H', I', rz, hz⟩
    | .error e, h => exact h
  rcases hp with hp | hp
  · obtain ⟨its, _, is, _⟩ := I.list hp
    obtain ⟨o, ho, hc, _⟩ := is.isList
    exact bin_xor I.kIn ia ho hc fills_lst_xor hcl hm me.at_ me.fn run
  · obtain ⟨its, _, is, _⟩ := I.tuple hp
    obtain ⟨o, ho, hc, _⟩ := is
    exact bin_xor I.kIn ia ho hc fills_tup_xor hcl hm me.at_ me.fn run
end
end W7
end
section
namespace W7
open PySem PySem.Spec PyProof.Rows L2 L3 Evl
open C8 (Cal pe_c Mak pe_mk Met pe_mt pe_mt0)
theorem row_eqv (ns ms : List Nat) : PyData.eqv (rowD ns) (rowD ms) = decide (ns = ms) := dp_eqN ns ms
theorem rows_eqv : ∀ L M : List (List Nat), PyData.eqvAll (L.map rowD) (M.map rowD) = decide (L = M)
  | [], [] => rfl
  | [], m :: M => by simp [PyData.eqvAll]
  | l :: L, [] => by simp [PyData.eqvAll]
  | l :: L, m :: M => by
    have h1 := rows_eqv L M
    have h2 := row_eqv l m
    simp only [List.map_cons, PyData.eqvAll, h1, h2]
    rw [Bool.eq_iff_iff]
    simp
theorem lots_inj {fm gm : List Nat} (hf : ∀ m ∈ fm, m < 64) (hg : ∀ m ∈ gm, m < 64) (h : fm.map lotF = gm.map lotF) : fm = gm := by
  have e : ∀ {ms : List Nat}, (∀ m ∈ ms, m < 64) → (ms.map lotF).map orF = ms := fun {ms} hb => by
    rw [List.map_map]
    exact (List.map_congr_left fun m hm => orF_lot m (hb m hm)).trans (List.map_id ms)
  rw [← e hf, ← e hg, h]
section
variable {P : Program} {w : World} {K : PySem.W.Frag} {mg : Str → Option Value} {base : Heap} {f : Addr} {fd : FuncData} {CF : Addr}
def spEqF (CF : Addr) : Sp := fun vs H Q _ => ∃ (a b : Addr) (size size2 : Nat) (fm gm : List Nat), vs = [.ref a, .ref b] ∧ FamAt H CF a size fm ∧ FamOk size fm ∧ FamAt H CF b size2 gm ∧ FamOk size2 gm ∧ RetV (.bl (decide (size = size2) && decide (fm = gm))) H Q
theorem sc_Family___eq : FnScope ["self", "other"] ["self", "other"] (defScope (inClass (top 30) 8)) := ⟨rfl, rfl, rfl, by decide +kernel, rfl, by decide +kernel, by decide +kernel⟩
theorem m_eqF (C : FC K CF) (ic : C8.InsC K CF) (hm : mg "Family" = some (.ref CF)) (me : Meth K CF "__eq__" f) (F : FunD K "__eq__" "Family.__eq__" (defArgs (inClass (top 30) 8)) (defBody (inClass (top 30) 8)) (defScope (inClass (top 30) 8)) [] [] f fd) (B : Bi mg) : Met P w K mg base 1 CF "__eq__" (spEqF CF) [] := by
  refine mkMet C.cls me F sc_Family___eq (fun _ _ _ _ _ _ us hl => match us, hl with | [_, _], _ => rfl) (fun vs H Q E h => ?_) (fun cdv A outer s H vs Q E hr h => ?_)
  · obtain ⟨a, b, size, size2, fm, gm, rfl, _⟩ := h
    rfl
  · obtain ⟨a, b, size, size2, fm, gm, rfl, hf, ok, hg, okg, q⟩ := h
    refine ⟨_, (pss_one (ps_ret (pe_and (pe_callB (C8.call_isC ic) (by rfl) B.isinstance (by decide +kernel) (pa_cons (pv 1) (pa_cons (C8.pe_gc (v := .ref CF) rfl ⟨.ref CF, hm, rfl⟩) pa_nil))) (pe_and (pe_cmpR on_eq (pe_fld (pv 0) rfl) (pe_fld (pv 1) rfl) (nomark _)) (pe_one (pe_cmpR (op_eqD hr.units) (pe_fld (pv 0) rfl) (pe_fld (pv 1) rfl) (nomark _))))))), ?_⟩
    obtain ⟨dx, fs, tl, rs, h1, h2, h3, h4, h5, h6⟩ := id hf
    obtain ⟨dy, gs, ul, us, k1, k2, k3, k4, k5, k6⟩ := id hg
    refine s_ret (ev_is (ev_andV (a := true) (b := decide (size = size2) && decide (fm = gm)) (ev_cb (ea_cons (ev_v 1) (ea_cons ev_c ea_nil)) fun H1 e1 Q1 q1 => ⟨b, dy, gs, rfl, e1 _ _ k1, q1 H1 (Ex.refl _)⟩) fun _ => ev_andV (ev_n (ev_size hf C (ev_v 0)) (ev_size hg C (ev_v 1))) fun _ => ev_op (ev_fld (ev_v 0) h1 C.cls C.a2 h3) (ev_fld (ev_v 1) k1 C.cls C.a2 k3) fun H1 e1 Q1 q1 => ?_) (by rw [Bool.true_and])) q
    refine ⟨_, _, .tup (st_of (e1 _ _ h5)) (dp_lots (h6.ex e1)), .tup (st_of (e1 _ _ k5)) (dp_lots (k6.ex e1)), (shaped_lots _).1, (shaped_lots _).1, ?_⟩
    have e : PyData.eqv (.tuple ((fm.map lotF).map rowD)) (.tuple ((gm.map lotF).map rowD)) = decide (fm = gm) := by
      rw [show PyData.eqv (.tuple ((fm.map lotF).map rowD)) (.tuple ((gm.map lotF).map rowD)) = PyData.eqvAll ((fm.map lotF).map rowD) ((gm.map lotF).map rowD) from rfl, rows_eqv]
      rw [decide_eq_decide]
      exact ⟨fun h => lots_inj ok.lt64 okg.lt64 h, fun h => by rw [h]⟩
    rw [e]
    exact q1 H1 (Ex.refl _)
end
end W7
end
section
namespace W7
open PySem PySem.Spec PyProof.Rows L2 L3 Evl
open C8 (Cal pe_c Mak pe_mk Met pe_mt pe_mt0)
theorem srt_one {ns : List Int} {m : Nat} (h1 : ns.Pairwise (· < ·)) (h : ∀ k : Int, k ∈ ns ↔ k ∈ inI m) : ns = inI m := by
  have h3 : (inI m).Pairwise (· < ·) := by
    unfold inI
    rw [List.pairwise_map]
    exact (lot_asc m).imp fun h => by omega
  have p : ns.Perm (inI m) := (List.perm_ext_iff_of_nodup (h1.imp fun h => by omega) (h3.imp fun h => by omega)).mpr h
  exact p.eq_of_pairwise (fun a b _ _ x y => by omega) h1 h3
section
variable {K : PySem.W.Frag} {w : World} {σ : L2.St} {H H' : Hp} {ta tb te tl : TE}
/-- sorted(set(row) ^ set(other)) -/
theorem el_symS {m u : Nat} {p b : Addr} (hm : m < 32) (hu : u < 32) (hp : H p = some (.tup (nv (lotF m)))) (hb : H b = some (.tup (nv (lotF u)))) (ha : Ev ta σ H (.ref p)) (hbv : ∀ H1, Ex H H1 → Ev tb σ H1 (.ref b)) :
    EvL (tCB (rSortedSetL w) (tCons (tOp (rSetXor w) (tCB (rSetOfI K w) (tCons ta tNil)) (tCB (rSetOfI K w) (tCons tb tNil))) tNil)) σ H (nv (lotF (m ^^^ u))) := fun H1 e Q q => by
  have hx : m ^^^ u < 64 := Nat.lt_of_lt_of_le (Nat.xor_lt_two_pow (n := 5) hm hu) (by decide)
  refine ev_set (K := K) (w := w) (e _ _ hp) (fun H3 e3 Q3 q3 => ha H3 (e.trans e3) Q3 q3) fun s1 c1 H2 hs1 e2 h2 hc1 => ?_
  refine ev_set (K := K) (w := w) (e2 _ _ (e _ _ hb)) (hbv H2 (e.trans e2)) fun s2 c2 H3 hs2 e3 h3 hc2 => ?_
  have l1 := lot_len u (by omega)
  have l2 := lot_len m (by omega)
  have b1 := bits_le u (by omega)
  have b2 := bits_le m (by omega)
  have b3 := bits_le _ hx
  have e1 : ∀ (k : Int) j, decide (k ∈ inI j) = (decide (0 ≤ k) && (decide (k.toNat < 12) && j.testBit k.toNat)) := fun k j => by
    rw [Bool.eq_iff_iff, decide_eq_true_iff, mem_inI]
    simp
  have mem : ∀ k : Int, ((decide (k ∈ inI m) != decide (k ∈ inI u)) = true) ↔ k ∈ inI (m ^^^ u) := fun k => by
    have e2 : k ∈ inI (m ^^^ u) ↔ decide (k ∈ inI (m ^^^ u)) = true := by simp
    rw [e2, e1, e1, e1, Nat.testBit_xor]
    cases decide (0 ≤ k) <;> cases decide (k.toNat < 12) <;> cases m.testBit k.toNat <;> cases u.testBit k.toNat <;> simp
  refine ⟨s1, s2, _, _, c1, c2, rfl, rfl, e3 _ _ h2, h3, fun k hk => ?_, by omega, by omega, fun s3 c3 hs3 => ?_⟩
  · have := mem_inI.mp (of_decide_eq_true hk)
    refine ⟨this.1, ?_⟩
    have h5 := tb_lt (n := u) (k := 5) (by omega) this.2.2
    omega
  · refine ⟨s3, _, c3, inI (m ^^^ u), rfl, upd_same, inI_nodup _, mem, ?_, fun ns r h1 h4 hr => ?_⟩
    · unfold inI
      rw [List.length_map, lot_len _ hx]; omega
    · have es : ns = inI (m ^^^ u) := srt_one h1 fun k => (h4 k).trans (mem k)
      have ev : ns.map V.int = nv (lotF (m ^^^ u)) := by
        rw [es]
        unfold inI nv
        rw [List.map_map]; rfl
      rw [ev]
      have eS := Ex.new (o := SetO w s3 (fun k => decide (k ∈ inI m) != decide (k ∈ inI u)) c3) hs3
      exact q r _ (fresh_back (e2.trans (e3.trans eS)) hr) ((e2.trans (e3.trans eS)).trans (Ex.new hr)) upd_same
end
section
variable {P : Program} {w : World} {K : PySem.W.Frag} {mg : Str → Option Value} {base : Heap} {f : Addr} {fd : FuncData} {CF : Addr}
def spXorF (CF : Addr) : Sp := fun vs H Q _ => ∃ (a p : Addr) (size : Nat) (fm : List Nat) (t : Nat), vs = [.ref a, .ref p] ∧ FamAt H CF a size fm ∧ FamOk size fm ∧ fm.Nodup ∧ t < 1 <<< size ∧ LotA H p (lotF t) ∧ RetFam CF size (fun k => ∃ m ∈ fm, k = m ^^^ t) H Q
theorem sc_Family___xor : FnScope ["self", "lot", "turn", "row"] ["self", "lot"] (defScope (inClass (top 30) 9)) := ⟨rfl, rfl, rfl, by decide +kernel, rfl, by decide +kernel, by decide +kernel⟩
theorem m_xorF (C : FC K CF) (me : Meth K CF "__xor__" f) (F : FunD K "__xor__" "Family.__xor__" (defArgs (inClass (top 30) 9)) (defBody (inClass (top 30) 9)) (defScope (inClass (top 30) 9)) [] [] f fd) (B : Bi mg) (c_lot_of : Cal P w K mg base 3 "lot_of" spLotOf []) (m_FamilyA : Mak P w K mg base 5 "Family" CF (spFamA CF) []) : Met P w K mg base 7 CF "__xor__" (spXorF CF) [] := by
  refine mkMet C.cls me F sc_Family___xor (fun _ _ _ _ _ _ us hl => match us, hl with | [_, _], _ => rfl) (fun vs H Q E h => ?_) (fun cdv A outer s H vs Q E hr h => ?_)
  · obtain ⟨a, p, size, fm, t, rfl, _⟩ := h
    rfl
  · obtain ⟨a, p, size, fm, t, rfl, hf, ok, nd, ht, hp, q⟩ := h
    have m_Family := m_FamilyA
    have hz := ok.s5
    have lo := lot_ok ht (by omega)
    have t32 := sh32 hz ht
    refine ⟨_, (pss_cons (ps_set (i := 2) sc_Family___xor.nd rfl (by first | exact Or.inl rfl | exact Or.inr rfl) (pe_c c_lot_of hr (by decide) rfl (pa_cons (pv 1) (pa_cons (pe_fld (pv 0) rfl) pa_nil)))) (pss_one (ps_ret (pe_mk m_Family hr (by decide) rfl (pa_cons (pe_fld (pv 0) rfl) (pa_cons (pe_lc (own := [("row", 3)]) (g := gName 3) (by rfl) sc_Family___xor.nd (pi_tup (pe_fld (pv 0) rfl)) (blkOk_by (own := [("row", 3)]) (N := ["self", "lot", "turn", "row"]) (sc := defScope (inClass (top 30) 9)) (by decide +kernel)) (fun _ _ _ _ _ => (pg_name (i := 3) sc_Family___xor.nd rfl (by first | exact Or.inl rfl | exact Or.inr rfl))) (fun _ _ _ _ _ => pts_nil) (fun _ _ _ _ _ => (pe_callTy (call_tuple_ofK (K := K) rfl) (by rfl) B.tuple (by decide +kernel) (pa_cons (pe_callB (cr_sortedSetLK (K := K) (w := w) rfl rfl rfl) (by rfl) B.sorted (by decide +kernel) (pa_cons (pe_op (op_setXorK (w := w) rfl) (pe_callTy (cr_setOfIK (K := K) (w := w) rfl rfl rfl) (by rfl) B.set (by decide +kernel) (pa_cons (pv 3) pa_nil)) (pe_callTy (cr_setOfIK (K := K) (w := w) rfl rfl rfl) (by rfl) B.set (by decide +kernel) (pa_cons (pv 2) pa_nil))) pa_nil)) pa_nil)))) pa_nil)))))), ?_⟩
    refine q_asgU (eu_call (xs := nv (lotF t)) (ea_cons (ev_v 1) (ea_cons (ev_size hf C (ev_v 0)) ea_nil)) fun H2 e2 Q2 q2 E2 => ⟨p, lotF t, size, rfl, hp.ex e2, lo.1, lo.2, q2⟩) fun r H1 hr1 e1 h1 => ?_
    obtain ⟨dx, fs, tl, rs, g1, g2, g3, g4, g5, g6⟩ := id (hf.ex e1)
    refine mk_famA (ev_size (hf.ex e1) C (ev_v 0)) ok.s1 hz ?_ ?_ (fun H3 e3 Q3 q3 => ?_) (q.ex e1)
    · obtain ⟨m, hm⟩ := List.exists_mem_of_ne_nil _ ok.ne
      exact ⟨_, m, hm, rfl⟩
    · rintro k ⟨m, hm, rfl⟩
      exact xor_lt_sh (ok.lt m hm) ht
    · have el := el_lotsF (K := K) (te := tCB (rTupOf K) (tCons (tCB (rSortedSetL w) (tCons (tOp (rSetXor w) (tCB (rSetOfI K w) (tCons (tVar 3) tNil)) (tCB (rSetOfI K w) (tCons (tVar 2) tNil))) tNil)) tNil)) (tl := tFld K (tVar 0) "lots") (tt := tYes) (j := 3) (vs := [3]) (a := tl) (rs := rs) (L := fm.map lotF) (σ := [some (.ref a), some (.ref p), some (.ref r), none]) (H := H3) (fun _ => true) (fun ns => lotF (orF ns ^^^ t)) (ev_fld (ev_v 0) (e3 _ _ g1) C.cls C.a2 g3) (st_of (e3 _ _ g5)) (g6.ex e3) (by rw [List.length_map]; have := ok.len; omega) (fun _ => rfl) (fun _ _ _ _ _ _ => et_yes) (fun x ns H4 e4 hx hns _ => by
        obtain ⟨b, rfl, hbt⟩ := hx
        obtain ⟨m, hm, rfl⟩ := List.mem_map.mp hns
        rw [orF_lot m (ok.lt64 m hm)]
        exact etup_U (eu_tupOf (el_symS (ok.lt32 m hm) t32 hbt ((e3.trans e4) _ _ h1) (ev_v 3) (fun _ _ => ev_v 2))))
      have e5 : ((fm.map lotF).filter fun _ => true).map (fun ns => lotF (orF ns ^^^ t)) = (fm.map fun m => m ^^^ t).map lotF := by
        rw [List.filter_eq_self.mpr (fun _ _ => rfl), List.map_map, List.map_map]
        refine List.map_congr_left fun m hm => ?_
        show lotF (orF (lotF m) ^^^ t) = lotF (m ^^^ t)
        rw [orF_lot m (ok.lt64 m hm)]
      rw [e5] at el
      refine el H3 (Ex.refl _) _ fun u us H4 hu e4 h4 L4 => q3 u us _ H4 e4 (.inl h4) (Lots.toP L4) ?_ fun k => ?_
      · exact List.pairwise_map.mpr (nd.imp fun {m n} hne e => hne (by have := congrArg (· ^^^ t) e; simpa [back] using this))
      · rw [List.mem_map]
        exact ⟨fun ⟨m, hm, e⟩ => ⟨m, hm, e.symm⟩, fun ⟨m, hm, e⟩ => ⟨m, hm, e.symm⟩⟩
/-- two new families in a tuple -/
def RetFam2 (CF : Addr) (size : Nat) (S T : Nat → Prop) (H : Hp) (Q : VK) : Prop := ∀ t x y H' fm gm, H t = none → Ex H H' → H' t = some (.tup [.ref x, .ref y]) → fm.Nodup → (∀ k, k ∈ fm ↔ S k) → (fm.map lotF).Pairwise lexLe → FamAt H' CF x size fm → FamIn H' CF x fm → FamOk size fm → gm.Nodup → (∀ k, k ∈ gm ↔ T k) → (gm.map lotF).Pairwise lexLe → FamAt H' CF y size gm → FamIn H' CF y gm → FamOk size gm → Q (.ref t) H'
def spUnst (CF : Addr) : Sp := fun vs H Q _ => ∃ (a : Addr) (size x : Nat) (fm : List Nat), vs = [.ref a, .int x] ∧ FamAt H CF a size fm ∧ FamOk size fm ∧ 2 ≤ size ∧ x < size ∧ fm.length < 64 ∧ (∃ m ∈ fm, m.testBit x = false) ∧ (∃ m ∈ fm, m.testBit x = true) ∧ RetFam2 CF (size - 1) (fun k => ∃ m ∈ fm, m.testBit x = false ∧ k = dropF x m) (fun k => ∃ m ∈ fm, m.testBit x = true ∧ k = dropF x m) H Q
end
end W7
end
section
namespace W7
open PySem PySem.Spec PyProof.Rows L2 L3 Evl
open C8 (Cal pe_c Mak pe_mk Met pe_mt pe_mt0)
/-! ### the law's own order is the program's -/
instance : DecidableRel lexLe := fun x y => inferInstanceAs (Decidable ((x.map fun n => ((n : Nat) : Int)) ≤ (y.map fun n => ((n : Nat) : Int))))
theorem ord_up : ∀ size : Nat, size < 6 → ((ordF size).map lotF).Pairwise lexLe := by decide +kernel
theorem ord_perm : ∀ size : Nat, size < 6 → (ordF size).Perm (List.range (1 <<< size)) := by decide +kernel
theorem num_lot : ∀ m : Nat, m < 64 → numF (lotF m) = m := by decide +kernel
section
variable {K : PySem.W.Frag} {σ : L2.St} {H : Hp} {te tl : TE}
theorem el_listRng {ta : TE} {n : Nat} (ha : Ev ta σ H (.int (n : Nat))) (hn : n ≤ 1000) : EvL (tLstRg (tRg1 ta)) σ H (nv (List.range n)) := fun H1 e Q q => ha H1 e _ fun H2 e2 => ⟨(n : Nat), rfl, ⟨by omega, by omega, by omega, by omega, by omega⟩, fun c hc => by
  have en : ((n : Int) - 0).toNat = n := by omega
  have ec : rgV 0 (n : Int) = nv (List.range n) := by
    unfold rgV nv
    rw [en]
    refine List.map_congr_left ?_
    intro i _; simp
  exact q c _ (fresh_back e2 hc) (e2.trans (Ex.new hc)) (by rw [upd_same, ec])⟩
theorem elots_callL {sp : Sp} {E : XK} {xs : List V} {L : List (List Nat)} (h : EvL te σ H xs) (hs : ∀ p H1, H1 p = some (.lst xs) → Ex H H1 → ∀ Q : VK, RetLots L H1 Q → sp [.ref p] H1 Q E) : EvLots (tCall sp [] E (tCons te tNil)) σ H L := fun H1 e Q q => h H1 e _ fun p H2 hp e2 h2 => hs p H2 h2 (e.trans e2) Q fun r rs H3 hr e3 h3 L3 => q r rs H3 (fresh_back e2 hr) (e2.trans e3) h3 L3
/-- [f(r) for r in tl], tl a new list of lots, the f(r) known values -/
theorem el_lotsV {L : List (List Nat)} {j : Nat} {vs : List Nat} (G : List Nat → V) (h : EvLots tl σ H L) (hz : L.length ≤ 40000) (hw : ∀ x, wipe ((wipe σ vs).set j (some x)) vs = wipe σ vs)
    (he : ∀ (r : V) (ns : List Nat) H1, Ex H H1 → TupV H1 r ns → ns ∈ L → Ev te ((wipe σ vs).set j (some r)) H1 (G ns)) :
    EvL (tLc (iList K tl) (gName j) tYes te vs) σ H (L.map G) := fun H0 e Q q => h H0 e _ fun a rs H1 ha e1 hx hL => ⟨a, rfl, ⟨rs, sq_of hx⟩, fun Dl hD =>
  lc_list (xs := rs) (fun i H' => H1 Dl = none ∧ Ex H1 H' ∧ H' Dl = some (.lst ((L.take i).map G))) ⟨hD, Ex.new hD, upd_same⟩ (fun i H' _ p => sq_of (p.2.1 _ _ hx)) (fun i x H' hi ⟨p1, p2, p3⟩ => ⟨hw x, by
    have hl : i < L.length := by rw [← hL.1]; exact (List.getElem?_eq_some_iff.mp hi).1
    have hn : L[i]? = some L[i] := List.getElem?_eq_some_iff.mpr ⟨hl, rfl⟩
    show te ((wipe σ vs).set j (some x)) H' _
    refine he x L[i] H1 (e.trans e1) (hL.2 i x _ hi hn) (List.getElem_mem hl) H' p2 _ fun H4 e4 => ⟨_, e4 _ _ p3, ?_, p1, Ex.mut (p2.trans e4) p1, ?_⟩
    · rw [List.length_map, List.length_take]; exact sz_lt (by omega)
    · rw [upd_same, List.take_add_one, hn, Option.toList_some, List.map_append]; rfl⟩) (fun H' ⟨p1, p2, p3⟩ => q Dl H' (fresh_back e1 p1) (e1.trans p2) (by rw [hL.1, List.take_length] at p3; exact p3))⟩
end
section
variable {P : Program} {w : World} {K : PySem.W.Frag} {mg : Str → Option Value} {base : Heap} {f : Addr} {fd : FuncData} {CF : Addr}
def spLawOrd : Sp := fun vs H Q _ => ∃ size : Nat, vs = [.int size] ∧ size ≤ 5 ∧ RetL (nv (ordF size)) H Q
end
end W7
end
section
namespace W7
/-! ### the program's word on neighbours, and the mathematics -/
abbrev seen (fm : List Nat) (t : Nat) : Nat → Prop := fun c => (c ^^^ t) ∈ fm
theorem nr_mem {fm : List Nat} {t b : Nat} (hne : fm ≠ []) : b ∈ nrF fm t ↔ LB (seen fm t) b := by
  unfold nrF aprF
  rw [List.mem_filter, List.mem_map]
  constructor
  · rintro ⟨⟨m, hm, rfl⟩, hb⟩
    have hb := of_decide_eq_true hb
    refine ⟨by show (m ^^^ t) ^^^ t ∈ fm; rw [back]; exact hm, fun c hc => ?_⟩
    have h1 := rk_le (t := t) (show c ^^^ t ∈ fm from hc)
    rw [back] at h1
    omega
  · rintro ⟨h1, h2⟩
    refine ⟨⟨b ^^^ t, h1, back b t⟩, decide_eq_true ?_⟩
    obtain ⟨g, hg, e⟩ := rk_at t hne
    have h3 := h2 (g ^^^ t) (show (g ^^^ t) ^^^ t ∈ fm by rw [back]; exact hg)
    have h4 := rk_le (t := t) (show b ^^^ t ∈ fm from h1)
    rw [back] at h4
    omega
theorem LB.rk {fm : List Nat} {t b : Nat} (hne : fm ≠ []) (h : LB (seen fm t) b) : bits b = rkF fm t := by
  have := (List.mem_filter.mp ((nr_mem hne).mpr h)).2
  exact of_decide_eq_true this
theorem lb_ex {fm : List Nat} (t : Nat) (hne : fm ≠ []) : ∃ b, LB (seen fm t) b := by
  obtain ⟨g, hg, e⟩ := rk_at t hne
  exact ⟨g ^^^ t, (nr_mem hne).mp (List.mem_filter.mpr ⟨List.mem_map.mpr ⟨g, hg, rfl⟩, decide_eq_true e⟩)⟩
theorem kep_hold {fm gm : List Nat} {t : Nat} (hg : gm ≠ []) (h : kepB (nrF gm t) (aprF fm t) = true) : Hold (seen fm t) (seen gm t) := fun n hn => by
  unfold kepB at h
  have h1 := List.all_eq_true.mp h n ((nr_mem hg).mpr hn)
  unfold conB at h1
  obtain ⟨q, hq, e⟩ := List.any_eq_true.mp h1
  obtain ⟨m, hm, rfl⟩ := List.mem_map.mp hq
  exact ⟨m ^^^ t, by show (m ^^^ t) ^^^ t ∈ fm; rw [back]; exact hm, of_decide_eq_true e⟩
theorem ok_kp {fm gm : List Nat} {t : Nat} (hf : fm ≠ []) (hg : gm ≠ []) (h : okB fm gm t = true) : KP (seen fm t) (seen gm t) := by
  obtain ⟨a, ha⟩ := lb_ex t hf
  obtain ⟨b, hb⟩ := lb_ex t hg
  have ra := ha.rk hf
  have rb := hb.rk hg
  refine ⟨a, b, ha, hb, ?_⟩
  unfold okB at h
  obtain h | h := Bool.or_eq_true_iff.mp h
  · obtain ⟨h1, h2⟩ := Bool.and_eq_true_iff.mp h
    have h1 := of_decide_eq_true h1
    have h2 := of_decide_eq_true h2
    exact .inl ⟨by omega, fun n => by rw [← nr_mem hf, ← nr_mem hg, h2]⟩
  · obtain h | h := Bool.or_eq_true_iff.mp h
    · obtain ⟨h1, h2⟩ := Bool.and_eq_true_iff.mp h
      have h1 := of_decide_eq_true h1
      exact .inr (.inl ⟨by omega, kep_hold hg h2⟩)
    · obtain ⟨h1, h2⟩ := Bool.and_eq_true_iff.mp h
      have h1 := of_decide_eq_true h1
      exact .inr (.inr ⟨by omega, kep_hold hf h2⟩)
/-- no clash of two gated families: together they are gated -/
theorem union_gated {size : Nat} {fm gm : List Nat} (ok : FamOk size fm) (okg : FamOk size gm) (hf : EX (· ∈ fm)) (hg : EX (· ∈ gm)) (h : clashO size fm gm = none) : EX (fun n => n ∈ fm ∨ n ∈ gm) := by
  have lt : ∀ {m : Nat}, m ∈ fm ∨ m ∈ gm → m < 1 <<< size := fun {m} hm => hm.elim (ok.lt m) (okg.lt m)
  refine union_ex (A := (· ∈ fm)) (B := (· ∈ gm)) (T := fun t => t < 1 <<< size) ⟨hf, ok.lt32⟩ ⟨hg, okg.lt32⟩ (fun t ht => ?_) fun m g x hm hg2 hx => ?_
  · refine ok_kp ok.ne okg.ne ?_
    unfold clashO at h
    rw [List.find?_eq_none] at h
    have := h t ((ord_ok size (by have := ok.s5; omega)).1 t ht)
    simpa using this
  · exact tog_sh (lt hm) (bit_sz (xor_lt_sh (lt hm) (lt hg2)) hx)
end W7
namespace W7
/-- neighbours either way round -/
theorem ok_comm (fm gm : List Nat) (t : Nat) : okB gm fm t = okB fm gm t := by
  unfold okB
  have e1 : decide (rkF fm t = rkF gm t) = decide (rkF gm t = rkF fm t) := by rw [decide_eq_decide]; exact eq_comm
  have e2 : decide (nrF gm t = nrF fm t) = decide (nrF fm t = nrF gm t) := by rw [decide_eq_decide]; exact eq_comm
  rw [e1, e2, Bool.or_comm (decide (rkF fm t = rkF gm t + 1) && kepB (nrF fm t) (aprF gm t))]
theorem clash_comm (size : Nat) (fm gm : List Nat) : clashO size gm fm = clashO size fm gm := by
  unfold clashO
  congr 1
  funext t
  rw [ok_comm]
end W7
end
section
namespace W7
open PySem PySem.Spec PyProof.Rows L2 L3 Evl
open C8 (Cal pe_c Mak pe_mk Met pe_mt pe_mt0)
/-! ### things that some lots have and some lack -/
def cntX (ms : List Nat) (x : Nat) : Nat := (ms.map fun m => (m >>> x) &&& 1).sum
def freeF (size : Nat) (ms : List Nat) : List Nat := (List.range size).filter fun x => decide (0 < cntX ms x) && decide (cntX ms x < ms.length)
theorem sum_nat : ∀ ns : List Nat, (ns.map fun n => ((n : Nat) : Int)).sum = ((ns.sum : Nat) : Int)
  | [] => rfl
  | n :: ns => by rw [List.map_cons, List.sum_cons, List.sum_cons, sum_nat ns, Int.natCast_add]
section
variable {K : PySem.W.Frag} {σ : L2.St} {H : Hp} {te : TE}
theorem ev_sumL {ns : List Nat} (h : EvL te σ H (nv ns)) : Ev (tCB (rSum K) (tCons te tNil)) σ H (.int (ns.sum : Nat)) := fun H1 e Q q => h H1 e _ fun p H2 hp e2 h2 => ⟨p, ns.map fun n => ((n : Nat) : Int), rfl, sq_of (by rw [h2]; unfold nv; rw [List.map_map]; rfl), by rw [sum_nat]; exact q H2 e2⟩
end
section
variable {P : Program} {w : World} {K : PySem.W.Frag} {mg : Str → Option Value} {base : Heap} {f : Addr} {fd : FuncData}
def spFree (K : PySem.W.Frag) : Sp := fun vs H Q _ => ∃ (size : Nat) (p : Addr) (ms : List Nat), vs = [.int size, .ref p] ∧ size ≤ 1000 ∧ SqL K H p (nv ms) ∧ ms.length ≤ 40000 ∧ RetL (nv (freeF size ms)) H Q
end
end W7
end
section
namespace W7
/-! ### neighbours by the mathematics, neighbours by the program's word: the way back -/
theorem hold_kep {fm gm : List Nat} {t : Nat} (hg : gm ≠ []) (h : Hold (seen fm t) (seen gm t)) : kepB (nrF gm t) (aprF fm t) = true := by
  unfold kepB
  rw [List.all_eq_true]
  intro n hn
  obtain ⟨c, c1, c2⟩ := h n ((nr_mem hg).mp hn)
  unfold conB
  exact List.any_eq_true.mpr ⟨c, List.mem_map.mpr ⟨c ^^^ t, c1, back c t⟩, decide_eq_true c2⟩
theorem srt_eq {fm gm : List Nat} (hf : (fm.map lotF).Pairwise lexLe) (hg : (gm.map lotF).Pairwise lexLe) (bf : ∀ m ∈ fm, m < 64) (bg : ∀ m ∈ gm, m < 64) (nf : fm.Nodup) (ng : gm.Nodup) (e : ∀ k, k ∈ fm ↔ k ∈ gm) : fm = gm :=
  lots_inj bf bg (lots_eq (((List.perm_ext_iff_of_nodup nf ng).mpr e).map _) hf hg)
theorem nr_map {fm : List Nat} {t : Nat} : nrF fm t = (nearF fm t).map fun m => m ^^^ t := by
  unfold nrF aprF nearF rkF
  rw [List.filter_map]; rfl
theorem near_lb {fm : List Nat} {t k : Nat} (hne : fm ≠ []) : k ∈ nearF fm t ↔ LB (seen fm t) (k ^^^ t) := by
  rw [← nr_mem hne, nr_map, List.mem_map]
  constructor
  · intro h
    exact ⟨k, h, rfl⟩
  · rintro ⟨m, hm, e⟩
    rw [← xor_inj e]; exact hm
theorem near_same {fm gm : List Nat} {t : Nat} (hf : fm ≠ []) (hg : gm ≠ []) (h : ∀ n, LB (seen fm t) n ↔ LB (seen gm t) n) (k : Nat) : k ∈ nearF fm t ↔ k ∈ nearF gm t := by
  rw [near_lb hf, near_lb hg]; exact h _
/-- a row of lots in their order -/
structure Srt (fm : List Nat) : Prop where
  ne : fm ≠ []
  lt : ∀ m ∈ fm, m < 64
  nd : fm.Nodup
  up : (fm.map lotF).Pairwise lexLe
theorem nr_eq {fm gm : List Nat} {t : Nat} (Sf : Srt fm) (Sg : Srt gm) (h : ∀ n, LB (seen fm t) n ↔ LB (seen gm t) n) : nrF fm t = nrF gm t := by
  rw [nr_map, nr_map]
  congr 1
  exact srt_eq (Sf.up.sublist (List.filter_sublist.map _)) (Sg.up.sublist (List.filter_sublist.map _)) (fun m hm => Sf.lt m (List.mem_filter.mp hm).1) (fun m hm => Sg.lt m (List.mem_filter.mp hm).1) (List.filter_sublist.nodup Sf.nd) (List.filter_sublist.nodup Sg.nd) (near_same Sf.ne Sg.ne h)
theorem kp_ok {fm gm : List Nat} {t : Nat} (Sf : Srt fm) (Sg : Srt gm) (k : KP (seen fm t) (seen gm t)) : okB fm gm t = true := by
  obtain ⟨a, b, ha, hb, k⟩ := k
  have ra := ha.rk Sf.ne
  have rb := hb.rk Sg.ne
  unfold okB
  rcases k with ⟨e, k⟩ | ⟨e, k⟩ | ⟨e, k⟩
  · rw [decide_eq_true (by omega : rkF gm t = rkF fm t), decide_eq_true (nr_eq Sf Sg k)]; rfl
  · rw [decide_eq_true (by omega : rkF gm t = rkF fm t + 1), hold_kep Sg.ne k]; simp
  · rw [decide_eq_true (by omega : rkF fm t = rkF gm t + 1), hold_kep Sf.ne k]; simp
theorem ok_iff {fm gm : List Nat} {t : Nat} (Sf : Srt fm) (Sg : Srt gm) : okB fm gm t = true ↔ KP (seen fm t) (seen gm t) := ⟨ok_kp Sf.ne Sg.ne, kp_ok Sf Sg⟩
/-! ### the law's own look at one lot -/
def holdL (A B : List Nat) (t : Nat) : Bool := (nearF B t).all fun n => A.any fun g => decide ((g ^^^ t) &&& (n ^^^ t) = g ^^^ t)
def clAt (A B : List Nat) (t : Nat) : Bool :=
  if rkF A t = rkF B t then !decide (nearF A t = nearF B t)
  else if rkF A t + 1 = rkF B t then !holdL A B t
  else if rkF B t + 1 = rkF A t then !holdL B A t
  else true
theorem holdL_iff {A B : List Nat} {t : Nat} (hB : B ≠ []) : holdL A B t = true ↔ Hold (seen A t) (seen B t) := by
  unfold holdL
  rw [List.all_eq_true]
  constructor
  · intro h n hn
    obtain ⟨g, hg, e⟩ := List.any_eq_true.mp (h (n ^^^ t) ((near_lb hB).mpr (by rw [back]; exact hn)))
    have e := of_decide_eq_true e
    rw [back] at e
    exact ⟨g ^^^ t, by show (g ^^^ t) ^^^ t ∈ A; rw [back]; exact hg, e⟩
  · intro h n hn
    obtain ⟨c, c1, c2⟩ := h _ ((near_lb hB).mp hn)
    refine List.any_eq_true.mpr ⟨c ^^^ t, c1, decide_eq_true ?_⟩
    rw [back]; exact c2
theorem asc_eq {A B : List Nat} (gA : A.Pairwise (· < ·)) (gB : B.Pairwise (· < ·)) (e : ∀ k, k ∈ A ↔ k ∈ B) : A = B :=
  ((List.perm_ext_iff_of_nodup (gA.imp fun h => by omega) (gB.imp fun h => by omega)).mpr e).eq_of_pairwise (fun a b _ _ x y => by omega) gA gB
theorem cl_kp {A B : List Nat} {t : Nat} (hA : A ≠ []) (hB : B ≠ []) (gA : A.Pairwise (· < ·)) (gB : B.Pairwise (· < ·)) : clAt A B t = false ↔ KP (seen A t) (seen B t) := by
  obtain ⟨a, ha⟩ := lb_ex t hA
  obtain ⟨b, hb⟩ := lb_ex t hB
  have ra := ha.rk hA
  have rb := hb.rk hB
  unfold clAt
  constructor
  · intro h
    refine ⟨a, b, ha, hb, ?_⟩
    split at h
    · rename_i e
      have h : nearF A t = nearF B t := by simpa using h
      refine .inl ⟨by omega, fun n => ?_⟩
      have h1 := near_lb (t := t) (k := n ^^^ t) hA
      have h2 := near_lb (t := t) (k := n ^^^ t) hB
      rw [back] at h1 h2
      rw [← h1, ← h2, h]
    · split at h
      · rename_i e
        exact .inr (.inl ⟨by omega, (holdL_iff hB).mp (by simpa using h)⟩)
      · split at h
        · rename_i e
          exact .inr (.inr ⟨by omega, (holdL_iff hA).mp (by simpa using h)⟩)
        · cases h
  · rintro ⟨a', b', ha', hb', k⟩
    have ea := ha'.eq ha
    have eb := hb'.eq hb
    rcases k with ⟨e, k⟩ | ⟨e, k⟩ | ⟨e, k⟩
    · rw [if_pos (by omega)]
      have : nearF A t = nearF B t := asc_eq (gA.sublist List.filter_sublist) (gB.sublist List.filter_sublist) (near_same hA hB k)
      simp [this]
    · rw [if_neg (by omega), if_pos (by omega), (holdL_iff hB).mpr k]; rfl
    · rw [if_neg (by omega), if_neg (by omega), if_pos (by omega), (holdL_iff hA).mpr k]; rfl
/-- the family fm is that of the masks ms -/
structure Sam (size : Nat) (fm ms : List Nat) : Prop where
  ok : FamOk size fm
  nd : fm.Nodup
  up : (fm.map lotF).Pairwise lexLe
  good : Good size ms
  iff : ∀ k, k ∈ fm ↔ k ∈ ms
theorem Sam.srt {size : Nat} {fm ms : List Nat} (s : Sam size fm ms) : Srt fm := ⟨s.ok.ne, s.ok.lt64, s.nd, s.up⟩
theorem Sam.ne {size : Nat} {fm ms : List Nat} (s : Sam size fm ms) : ms ≠ [] := fun e => by
  obtain ⟨m, hm⟩ := List.exists_mem_of_ne_nil _ s.ok.ne
  have := (s.iff m).mp hm
  rw [e] at this
  cases this
theorem ok_cl {size : Nat} {fm gm A B : List Nat} (s : Sam size fm A) (r : Sam size gm B) (t : Nat) : (!okB fm gm t) = clAt A B t := by
  have h1 := ok_iff (t := t) s.srt r.srt
  have h2 := cl_kp (t := t) s.ne r.ne s.good.1 r.good.1
  have h3 : KP (seen fm t) (seen gm t) ↔ KP (seen A t) (seen B t) := ⟨fun k => k.iff (fun n => s.iff _) (fun n => r.iff _), fun k => k.iff (fun n => (s.iff _).symm) (fun n => (r.iff _).symm)⟩
  cases hc : clAt A B t with
  | false => rw [h1.mpr (h3.mpr (h2.mp hc))]; rfl
  | true =>
    cases ho : okB fm gm t with
    | false => rfl
    | true =>
      have := h2.mpr (h3.mp (h1.mp ho))
      rw [hc] at this
      cases this
def clashL (size : Nat) (A B : List Nat) : Option Nat := (ordF size).find? (clAt A B)
theorem clash_law {size : Nat} {fm gm A B : List Nat} (s : Sam size fm A) (r : Sam size gm B) : clashO size fm gm = clashL size A B := by
  unfold clashO clashL
  congr 1
  funext t
  exact ok_cl s r t
/-! ### turned alike -/
theorem turn_seen {fm fm' : List Nat} {s : Nat} (h : ∀ k, k ∈ fm' ↔ ∃ m ∈ fm, k = m ^^^ s) (t c : Nat) : seen fm (t ^^^ s) c ↔ seen fm' t c := by
  show (c ^^^ (t ^^^ s)) ∈ fm ↔ (c ^^^ t) ∈ fm'
  rw [h, ← Nat.xor_assoc]
  constructor
  · intro hm
    exact ⟨_, hm, (back _ s).symm⟩
  · rintro ⟨m, hm, e⟩
    rw [e, back]; exact hm
theorem turn_ok {fm gm fm' gm' : List Nat} {s : Nat} (Sf : Srt fm) (Sg : Srt gm) (Sf' : Srt fm') (Sg' : Srt gm') (h : ∀ k, k ∈ fm' ↔ ∃ m ∈ fm, k = m ^^^ s) (h' : ∀ k, k ∈ gm' ↔ ∃ m ∈ gm, k = m ^^^ s) (t : Nat) : okB fm' gm' t = okB fm gm (t ^^^ s) := by
  have h1 := ok_iff (t := t) Sf' Sg'
  have h2 := ok_iff (t := t ^^^ s) Sf Sg
  have h3 : KP (seen fm' t) (seen gm' t) ↔ KP (seen fm (t ^^^ s)) (seen gm (t ^^^ s)) := ⟨fun k => k.iff (fun n => (turn_seen h t n).symm) (fun n => (turn_seen h' t n).symm), fun k => k.iff (fun n => turn_seen h t n) (fun n => turn_seen h' t n)⟩
  cases hc : okB fm gm (t ^^^ s) with
  | true => exact h1.mpr (h3.mpr (h2.mp hc))
  | false =>
    cases ho : okB fm' gm' t with
    | false => rfl
    | true =>
      have := h2.mpr (h3.mp (h1.mp ho))
      rw [hc] at this
      cases this
theorem turn_clash {size : Nat} {fm gm fm' gm' A B : List Nat} {s : Nat} (h5 : size ≤ 5) (hs : s < 1 <<< size) (Mf : Sam size fm A) (Mg : Sam size gm B) (Sf' : Srt fm') (Sg' : Srt gm') (h : ∀ k, k ∈ fm' ↔ ∃ m ∈ fm, k = m ^^^ s) (h' : ∀ k, k ∈ gm' ↔ ∃ m ∈ gm, k = m ^^^ s) :
    (clashO size fm' gm' = none ↔ clashO size fm gm = none) ∧ ∀ t, clashO size fm' gm' = some t → t < 1 <<< size ∧ clAt A B (t ^^^ s) = true := by
  have ho := ord_ok size (by omega)
  have hk := turn_ok Mf.srt Mg.srt Sf' Sg' h h'
  unfold clashO
  refine ⟨?_, fun t ht => ?_⟩
  · rw [List.find?_eq_none, List.find?_eq_none]
    constructor
    · intro z t ht
      have h1 := z (t ^^^ s) (ho.1 _ (xor_lt_sh (ho.2.1 t ht) hs))
      rw [hk, back] at h1
      exact h1
    · intro z t ht
      rw [hk]
      exact z _ (ho.1 _ (xor_lt_sh (ho.2.1 t ht) hs))
  · have h1 := List.mem_of_find?_eq_some ht
    have h2 := List.find?_some ht
    refine ⟨ho.2.1 t h1, ?_⟩
    rw [← ok_cl Mf Mg, ← hk]
    exact h2
/-! ### stacked and forgotten again -/
theorem stack_forget {fm gm st br : List Nat} {x : Nat} (hx : x < 6) (bf : ∀ m ∈ fm, m < 32) (bg : ∀ m ∈ gm, m < 32) (h : ∀ k, k ∈ st ↔ ((∃ m ∈ fm, k = upF x m) ∨ ∃ m ∈ gm, k = (upF x m) ||| (1 <<< x))) (h' : ∀ k, k ∈ br ↔ ∃ m ∈ st, k = dropF x m) (k : Nat) : k ∈ br ↔ k ∈ fm ∨ k ∈ gm := by
  rw [h']
  constructor
  · rintro ⟨m, hm, rfl⟩
    rcases (h m).mp hm with ⟨n, hn, rfl⟩ | ⟨n, hn, rfl⟩
    · rw [(up_inj x hx n (bf n hn)).1]; exact .inl hn
    · rw [(up_inj x hx n (bg n hn)).2.1]; exact .inr hn
  · rintro (hk | hk)
    · exact ⟨upF x k, (h _).mpr (.inl ⟨k, hk, rfl⟩), (up_inj x hx k (bf k hk)).1.symm⟩
    · exact ⟨(upF x k) ||| (1 <<< x), (h _).mpr (.inr ⟨k, hk, rfl⟩), (up_inj x hx k (bg k hk)).2.1.symm⟩
/-! ### gated, by rows and by breaks -/
theorem ex_rows {size : Nat} {fm : List Nat} (hb : ∀ m ∈ fm, m < 1 <<< size) (h : RowsOk size fm) : EX (· ∈ fm) := fun m g hm hg x hx => by
  have hxs := bit_sz (xor_lt_sh (hb m hm) (hb g hg)) hx
  by_cases ho : m ^^^ (1 <<< x) ∈ fm
  · exact .inl ho
  · right
    have hl : (lowF size fm (m ^^^ (1 <<< x))).testBit x = true := by
      rw [low_tb, back, decide_eq_true hxs, decide_eq_true hm]; rfl
    have hn : lowF size fm (m ^^^ (1 <<< x)) ≠ 0 := fun e => by rw [e] at hl; simp at hl
    obtain ⟨y, hy⟩ := Nat.exists_testBit_of_ne_zero (h _ (tog_sh (hb m hm) hxs) hn ho g hg)
    rw [Nat.testBit_and, low_tb, Bool.and_eq_true, Bool.and_eq_true] at hy
    obtain ⟨h1, h2, h3⟩ := hy
    have e : (g ^^^ (m ^^^ (1 <<< x))).testBit y = ((m ^^^ g).testBit y ^^ decide (x = y)) := by
      rw [← Nat.xor_assoc, Nat.testBit_xor, one_tb, Nat.xor_comm g m]
    rw [e] at h1
    have hyx : y ≠ x := fun e2 => by rw [e2, hx] at h1; simp at h1
    rw [decide_eq_false (Ne.symm hyx), Bool.xor_false] at h1
    exact ⟨y, hyx, h1, of_decide_eq_true h3⟩
theorem rows_gat {size : Nat} {fm ms : List Nat} (hf : ∀ m ∈ fm, m < 1 <<< size) (hm : ∀ m ∈ ms, m < 1 <<< size) (e : ∀ k, k ∈ fm ↔ k ∈ ms) : RowsOk size fm ↔ GatedP size ms := by
  have ee : (fun k => k ∈ fm) = (fun k => k ∈ ms) := funext fun k => propext (e k)
  constructor
  · intro h
    refine gated_of_EX hm ?_
    rw [← ee]
    exact ex_rows hf h
  · intro h
    refine rows_ok hf ?_
    rw [ee]
    exact EX_of_gated hm h
end W7
end
section
namespace W7
/-! ### lots without one thing, the things above it moved down -/
def dnI (x z : Nat) : Nat := if x < z then z - 1 else z
def upI (x z : Nat) : Nat := if x ≤ z then z + 1 else z
theorem up_one : ∀ x : Nat, x < 5 → ∀ m : Nat, m < 16 → bits (upF x m) = bits m ∧ upF x m < 32 ∧ (upF x m).testBit x = false ∧ dropF x (upF x m) = m := by decide +kernel
theorem up_two : ∀ x : Nat, x < 5 → ∀ a : Nat, a < 16 → ∀ b : Nat, b < 16 → upF x a &&& upF x b = upF x (a &&& b) ∧ upF x a ^^^ upF x b = upF x (a ^^^ b) := by decide +kernel
theorem up_drop : ∀ x : Nat, x < 5 → ∀ c : Nat, c < 32 → dropF x c < 16 ∧ (c.testBit x = false → upF x (dropF x c) = c) ∧ (c.testBit x = true → upF x (dropF x c) ^^^ (1 <<< x) = c ∧ (upF x (dropF x c)) ||| (1 <<< x) = c) := by decide +kernel
theorem up_dn0 : ∀ x : Nat, x < 5 → ∀ a : Nat, a < 16 → ∀ z : Nat, z < 5 → ((upF x a).testBit z = false ∨ (a.testBit (dnI x z) = true ∧ upF x (1 <<< dnI x z) = 1 <<< z ∧ dnI x z < 4)) := by decide +kernel
theorem up_dn (x : Nat) (hx : x < 5) (a : Nat) (ha : a < 16) (z : Nat) (hz : z < 5) (h : (upF x a).testBit z = true) : a.testBit (dnI x z) = true ∧ upF x (1 <<< dnI x z) = 1 <<< z ∧ dnI x z < 4 := (up_dn0 x hx a ha z hz).resolve_left (by rw [h]; decide)
theorem up_up0 : ∀ x : Nat, x < 5 → ∀ a : Nat, a < 16 → ∀ z : Nat, z < 4 → (a.testBit z = false ∨ ((upF x a).testBit (upI x z) = true ∧ upF x (1 <<< z) = 1 <<< upI x z ∧ upI x z < 5)) := by decide +kernel
theorem up_up (x : Nat) (hx : x < 5) (a : Nat) (ha : a < 16) (z : Nat) (hz : z < 4) (h : a.testBit z = true) : (upF x a).testBit (upI x z) = true ∧ upF x (1 <<< z) = 1 <<< upI x z ∧ upI x z < 5 := (up_up0 x hx a ha z hz).resolve_left (by rw [h]; decide)
theorem x16 {a b : Nat} (ha : a < 16) (hb : b < 16) : a ^^^ b < 16 := Nat.xor_lt_two_pow (n := 4) ha hb
theorem one16 {z : Nat} (h : z < 4) : 1 <<< z < 16 := one_lt_sh (n := 4) h
def Up (x : Nat) (S S' : Nat → Prop) : Prop := (∀ c, S c → c < 16) ∧ ∀ c, S' c ↔ (c < 32 ∧ c.testBit x = false ∧ S (dropF x c))
theorem Up.to {x : Nat} {S S' : Nat → Prop} (h : Up x S S') (hx : x < 5) {c : Nat} (hc : S c) : S' (upF x c) := by
  obtain ⟨_, h2, h3, h4⟩ := up_one x hx c (h.1 c hc)
  exact (h.2 _).mpr ⟨h2, h3, by rw [h4]; exact hc⟩
theorem Up.of {x : Nat} {S S' : Nat → Prop} (h : Up x S S') (hx : x < 5) {c : Nat} (hc : S' c) : S (dropF x c) ∧ upF x (dropF x c) = c ∧ bits c = bits (dropF x c) := by
  obtain ⟨a, b, d⟩ := (h.2 c).mp hc
  have e := (up_drop x hx c a).2.1 b
  exact ⟨d, e, by rw [← (up_one x hx _ (h.1 _ d)).1, e]⟩
theorem Up.lb {x : Nat} {S S' : Nat → Prop} (h : Up x S S') (hx : x < 5) {a : Nat} (ha : LB S a) : LB S' (upF x a) := ⟨h.to hx ha.1, fun c hc => by
  obtain ⟨d, _, e⟩ := h.of hx hc
  rw [(up_one x hx a (h.1 a ha.1)).1, e]
  exact ha.2 _ d⟩
theorem Up.bl {x : Nat} {S S' : Nat → Prop} (h : Up x S S') (hx : x < 5) {a : Nat} (ha : LB S' a) : LB S (dropF x a) := by
  obtain ⟨d, _, e⟩ := h.of hx ha.1
  refine ⟨d, fun c hc => ?_⟩
  rw [← e, ← (up_one x hx c (h.1 c hc)).1]
  exact ha.2 _ (h.to hx hc)
theorem Up.hold {x : Nat} {S S' T T' : Nat → Prop} (h : Up x S S') (k : Up x T T') (hx : x < 5) (z : Hold S' T') : Hold S T := fun n hn => by
  obtain ⟨c, c1, c2⟩ := z _ (k.lb hx hn)
  obtain ⟨d, e, _⟩ := h.of hx c1
  refine ⟨_, d, ?_⟩
  have hd := h.1 _ d
  have hn16 := k.1 n hn.1
  rw [← e, (up_two x hx _ hd n hn16).1] at c2
  have h2 := congrArg (dropF x) c2
  rw [(up_one x hx _ hd).2.2.2, (up_one x hx _ (Nat.lt_of_le_of_lt Nat.and_le_left hd)).2.2.2] at h2
  exact h2
theorem Up.kp {x : Nat} {S S' T T' : Nat → Prop} (h : Up x S S') (k : Up x T T') (hx : x < 5) (z : KP S' T') : KP S T := by
  obtain ⟨a, b, ha, hb, z⟩ := z
  have e1 := (h.of hx ha.1).2.2
  have e2 := (k.of hx hb.1).2.2
  refine ⟨_, _, h.bl hx ha, k.bl hx hb, ?_⟩
  rcases z with ⟨e, z⟩ | ⟨e, z⟩ | ⟨e, z⟩
  · refine .inl ⟨by omega, fun n => ⟨fun hn => ?_, fun hn => ?_⟩⟩
    · have h1 := k.bl hx ((z _).mp (h.lb hx hn))
      rw [(up_one x hx n (h.1 n hn.1)).2.2.2] at h1
      exact h1
    · have h1 := h.bl hx ((z _).mpr (k.lb hx hn))
      rw [(up_one x hx n (k.1 n hn.1)).2.2.2] at h1
      exact h1
  · exact .inr (.inl ⟨by omega, h.hold k hx z⟩)
  · exact .inr (.inr ⟨by omega, k.hold h hx z⟩)
/-- g is what E has without x -/
def Gs (x : Nat) (E : Nat → Prop) (g : List Nat) : Prop := ∀ k, k ∈ g ↔ (k < 16 ∧ E (upF x k))
theorem gs_up {x t : Nat} {E : Nat → Prop} {g : List Nat} (hx : x < 5) (ht : t < 16) (hE : ∀ c, E c → c < 32) (h : Gs x E g) : Up x (seen g t) (fun c => outP E x (c ^^^ upF x t)) := by
  obtain ⟨_, u2, u3, _⟩ := up_one x hx t ht
  refine ⟨fun c hc => ?_, fun c => ⟨?_, ?_⟩⟩
  · have := x16 ((h _).mp hc).1 ht
    rwa [back] at this
  · rintro ⟨h1, h2⟩
    rw [Nat.testBit_xor, u3, Bool.xor_false] at h2
    have c32 : c < 32 := by have := xlt (hE _ h1) u2; rwa [back] at this
    obtain ⟨d1, d2, _⟩ := up_drop x hx c c32
    refine ⟨c32, h2, (h _).mpr ⟨x16 d1 ht, ?_⟩⟩
    rw [← (up_two x hx _ d1 t ht).2, d2 h2]; exact h1
  · rintro ⟨c32, h2, h3⟩
    obtain ⟨d1, d2, _⟩ := up_drop x hx c c32
    have h4 := ((h _).mp h3).2
    rw [← (up_two x hx _ d1 t ht).2, d2 h2] at h4
    exact ⟨h4, by rw [Nat.testBit_xor, u3, Bool.xor_false]; exact h2⟩
theorem gs_ex {x : Nat} {E : Nat → Prop} {g : List Nat} (hx : x < 5) (hE : EXB E) (h : Gs x E g) : EX (· ∈ g) := fun m n hm hn z hz => by
  obtain ⟨m16, em⟩ := (h m).mp hm
  obtain ⟨n16, en⟩ := (h n).mp hn
  have mn16 := x16 m16 n16
  have hz4 : z < 4 := tb_lt mn16 hz
  obtain ⟨u1, u2, u3⟩ := up_up x hx _ mn16 z hz4 hz
  have e1 := (up_two x hx m m16 n n16).2
  have mz16 := x16 m16 (one16 hz4)
  have e2 : upF x m ^^^ (1 <<< upI x z) = upF x (m ^^^ (1 <<< z)) := by rw [← u2, (up_two x hx m m16 _ (one16 hz4)).2]
  rcases hE.1 _ _ em en (upI x z) (by rw [e1]; exact u1) with k | ⟨y, hy, k1, k2⟩
  · left
    rw [e2] at k
    exact (h _).mpr ⟨mz16, k⟩
  · right
    rw [e1] at k1
    have hy5 : y < 5 := tb_lt (k := 5) (up_one x hx _ mn16).2.1 k1
    obtain ⟨w1, w2, w3⟩ := up_dn x hx _ mn16 y hy5 k1
    refine ⟨dnI x y, fun e => hy ?_, w1, ?_⟩
    · rw [e, u2] at w2
      have h1 := one_tb (upI x z) y
      rw [w2, one_tb] at h1
      have h2 : decide (upI x z = y) = true := by rw [← h1]; simp
      exact (of_decide_eq_true h2).symm
    · rw [e2, ← w2, (up_two x hx _ mz16 _ (one16 w3)).2] at k2
      exact (h _).mpr ⟨x16 mz16 (one16 w3), k2⟩
section
variable {size x : Nat} {fm g0 g1 : List Nat}
theorem gs_out (ok : FamOk size fm) (hx : x < 5) (h0 : ∀ k, k ∈ g0 ↔ ∃ m ∈ fm, m.testBit x = false ∧ k = dropF x m) : Gs x (· ∈ fm) g0 := fun k => by
  rw [h0]
  constructor
  · rintro ⟨m, hm, hb, rfl⟩
    obtain ⟨d1, d2, _⟩ := up_drop x hx m (ok.lt32 m hm)
    exact ⟨d1, by rw [d2 hb]; exact hm⟩
  · rintro ⟨h1, h2⟩
    obtain ⟨_, _, u3, u4⟩ := up_one x hx k h1
    exact ⟨_, h2, u3, u4.symm⟩
theorem gs_in (ok : FamOk size fm) (hx : x < 5) (h1 : ∀ k, k ∈ g1 ↔ ∃ m ∈ fm, m.testBit x = true ∧ k = dropF x m) : Gs x (fun c => (c ^^^ (1 <<< x)) ∈ fm) g1 := fun k => by
  rw [h1]
  constructor
  · rintro ⟨m, hm, hb, rfl⟩
    obtain ⟨d1, _, d3⟩ := up_drop x hx m (ok.lt32 m hm)
    exact ⟨d1, by show upF x (dropF x m) ^^^ (1 <<< x) ∈ fm; rw [(d3 hb).1]; exact hm⟩
  · rintro ⟨h1, h2⟩
    obtain ⟨_, u2, u3, u4⟩ := up_one x hx k h1
    have t : (upF x k ^^^ (1 <<< x)).testBit x = true := by rw [Nat.testBit_xor, u3, one_tb]; simp
    refine ⟨_, h2, t, ?_⟩
    obtain ⟨d1, _, d3⟩ := up_drop x hx _ (ok.lt32 _ h2)
    have e := congrArg (fun c => c ^^^ (1 <<< x)) (d3 t).1
    simp only [back] at e
    have e := congrArg (dropF x) e
    rw [(up_one x hx _ d1).2.2.2, u4] at e
    exact e.symm
theorem sh16 (h5 : size ≤ 5) {t : Nat} (ht : t < 1 <<< (size - 1)) : t < 16 := by
  have : (1 : Nat) <<< (size - 1) ≤ 16 := by
    rw [Nat.one_shiftLeft]
    exact Nat.pow_le_pow_right (by decide) (by omega : size - 1 ≤ 4)
  omega
/-- out and in of a gated family: gated, and neighbours -/
theorem parts_ok (ok : FamOk size fm) (hg : EX (· ∈ fm)) (hx : x < size) (h0 : ∀ k, k ∈ g0 ↔ ∃ m ∈ fm, m.testBit x = false ∧ k = dropF x m) (h1 : ∀ k, k ∈ g1 ↔ ∃ m ∈ fm, m.testBit x = true ∧ k = dropF x m) (S0 : Srt g0) (S1 : Srt g1) :
    EX (· ∈ g0) ∧ EX (· ∈ g1) ∧ clashO (size - 1) g0 g1 = none := by
  have h5 := ok.s5
  have hx5 : x < 5 := by omega
  have s32 : (1 : Nat) <<< x < 32 := one_lt_sh (n := 5) hx5
  have hE : EXB (· ∈ fm) := ⟨hg, ok.lt32⟩
  have hE2 : EXB (fun c => (c ^^^ (1 <<< x)) ∈ fm) := hE.turn s32
  have k0 := gs_out ok hx5 h0
  have k1 := gs_in ok hx5 h1
  refine ⟨gs_ex hx5 hE k0, gs_ex hx5 hE2 k1, ?_⟩
  obtain ⟨a, ha⟩ := List.exists_mem_of_ne_nil _ S0.ne
  obtain ⟨b, hb⟩ := List.exists_mem_of_ne_nil _ S1.ne
  obtain ⟨m0, p1, p2, _⟩ := (h0 a).mp ha
  obtain ⟨b1, b2⟩ := (k1 b).mp hb
  unfold clashO
  rw [List.find?_eq_none]
  intro t ht
  have t16 := sh16 h5 ((ord_ok (size - 1) (by omega)).2.1 t ht)
  obtain ⟨_, u2, u3, _⟩ := up_one x hx5 t t16
  have kp := sides_kp hE hx5 u2 u3 ⟨m0, p1, p2⟩ ⟨_, b2, (up_one x hx5 b b1).2.2.1⟩
  have := kp_ok S0 S1 ((gs_up hx5 t16 hE.2 k0).kp (gs_up hx5 t16 hE2.2 k1) hx5 kp)
  rw [this]
  decide
/-- stacked again: the family -/
theorem parts_stack {st : List Nat} (ok : FamOk size fm) (hx : x < 5) (h0 : ∀ k, k ∈ g0 ↔ ∃ m ∈ fm, m.testBit x = false ∧ k = dropF x m) (h1 : ∀ k, k ∈ g1 ↔ ∃ m ∈ fm, m.testBit x = true ∧ k = dropF x m)
    (h : ∀ k, k ∈ st ↔ ((∃ m ∈ g0, k = upF x m) ∨ ∃ m ∈ g1, k = (upF x m) ||| (1 <<< x))) (k : Nat) : k ∈ st ↔ k ∈ fm := by
  rw [h]
  constructor
  · rintro (⟨m, hm, rfl⟩ | ⟨m, hm, rfl⟩)
    · obtain ⟨n, hn, hb, rfl⟩ := (h0 m).mp hm
      rw [(up_drop x hx n (ok.lt32 n hn)).2.1 hb]; exact hn
    · obtain ⟨n, hn, hb, rfl⟩ := (h1 m).mp hm
      rw [((up_drop x hx n (ok.lt32 n hn)).2.2 hb).2]; exact hn
  · intro hk
    have d := up_drop x hx k (ok.lt32 k hk)
    cases hb : k.testBit x with
    | false => exact .inl ⟨_, (h0 _).mpr ⟨k, hk, hb, rfl⟩, (d.2.1 hb).symm⟩
    | true => exact .inr ⟨_, (h1 _).mpr ⟨k, hk, hb, rfl⟩, (d.2.2 hb).2.symm⟩
/-- forgotten: both together -/
theorem parts_all {br : List Nat} (h0 : ∀ k, k ∈ g0 ↔ ∃ m ∈ fm, m.testBit x = false ∧ k = dropF x m) (h1 : ∀ k, k ∈ g1 ↔ ∃ m ∈ fm, m.testBit x = true ∧ k = dropF x m) (h : ∀ k, k ∈ br ↔ ∃ m ∈ fm, k = dropF x m) (k : Nat) : k ∈ br ↔ k ∈ g0 ∨ k ∈ g1 := by
  rw [h, h0, h1]
  constructor
  · rintro ⟨m, hm, rfl⟩
    cases hb : m.testBit x with
    | false => exact .inl ⟨m, hm, hb, rfl⟩
    | true => exact .inr ⟨m, hm, hb, rfl⟩
  · rintro (⟨m, hm, _, rfl⟩ | ⟨m, hm, _, rfl⟩) <;> exact ⟨m, hm, rfl⟩
end
theorem cnt_none {x : Nat} : ∀ {ms : List Nat}, (∀ m ∈ ms, m.testBit x = false) → cntX ms x = 0
  | [], _ => rfl
  | m :: ms, h => by
    have h1 := cnt_none (ms := ms) fun n hn => h n (List.mem_cons_of_mem _ hn)
    unfold cntX at *
    rw [List.map_cons, List.sum_cons, h1, shr_and, h m List.mem_cons_self]; rfl
theorem cnt_all {x : Nat} : ∀ {ms : List Nat}, (∀ m ∈ ms, m.testBit x = true) → cntX ms x = ms.length
  | [], _ => rfl
  | m :: ms, h => by
    have h1 := cnt_all (ms := ms) fun n hn => h n (List.mem_cons_of_mem _ hn)
    unfold cntX at *
    rw [List.map_cons, List.sum_cons, h1, shr_and, h m List.mem_cons_self, List.length_cons]
    exact Nat.add_comm _ _
theorem free_mem {size x : Nat} {ms : List Nat} (h : x ∈ freeF size ms) : x < size ∧ (∃ m ∈ ms, m.testBit x = false) ∧ ∃ m ∈ ms, m.testBit x = true := by
  obtain ⟨h1, h2⟩ := List.mem_filter.mp h
  obtain ⟨h3, h4⟩ := Bool.and_eq_true_iff.mp h2
  have h3 := of_decide_eq_true h3
  have h4 := of_decide_eq_true h4
  refine ⟨List.mem_range.mp h1, Classical.byContradiction fun c => ?_, Classical.byContradiction fun c => ?_⟩
  · have : cntX ms x = ms.length := cnt_all fun m hm => by
      cases e : m.testBit x with
      | true => rfl
      | false => exact absurd ⟨m, hm, e⟩ c
    omega
  · have : cntX ms x = 0 := cnt_none fun m hm => by
      cases e : m.testBit x with
      | false => rfl
      | true => exact absurd ⟨m, hm, e⟩ c
    omega
end W7
end
section
namespace PySem
namespace Xc
open PySem.Calls PySem.W PyProof.Rows
/-- the three classes that stand behind own error classes -/
abbrev exB : List Value := [.type "Exception", .type "BaseException", .type "object"]
/-- «def __init__(self, f): self.f = f», and no more -/
structure OneField (st : Stmt) (f : Str) : Prop where
  body : ∃ q1 q2 q3 q4 : Pos, L2.defBody st = [.Assign [.Attribute (.Name "self" q1) f q2] (.Name f q3) q4]
  co : (L2.defScope st).isCoroutine = false
  gen : (L2.defScope st).isGenerator = false
  kind : (L2.defScope st).kind = .function
  self : (L2.defScope st).names.lookup ("self" : Str) = some NameKind.local
  fld : (L2.defScope st).names.lookup f = some NameKind.local
  dbg : (f == ("__debug__" : Str)) = false
  ne : f ≠ "self"
  binds : ∀ (s : Shared) (x qual : Str) (kV doc pm cdv ct : Value) (an : Option Addr) (u v : Value), BindsTo s (PySem.W.fnOf x qual (L2.defArgs st) (L2.defBody st) (L2.defScope st) .none kV doc pm an cdv ct) ⟨[u, v], []⟩ [("self", u), (f, v)]
/-- what the written part says of an own error class at C whose objects hold the field f -/
structure ErrC (K : Frag) (mg : Str → Option Value) (x f : Str) (C : Addr) : Prop where
  here : mg x = some (.ref C)
  shape : excInitIn K C exB "Exception.__new__" = true
  over : excOver K C exB = true
  setA : findIn K (.ref C) "__setattr__" = some (some (.builtin "object.__setattr__"))
  free : takerIn K C f = some none
  bare : findIn K (.ref C) f = some none
  keep : keepIn K (.ref C) = true
  ofB : subIn K (.ref C) (.type "BaseException") = some true
  ty : typeIn K (.ref C) = some (.type "type")
  dct : hasDictIn K C = true
  ga : findIn K (.ref C) "__getattribute__" = some (some (.builtin "BaseException.__getattribute__"))
  gg : findIn K (.ref C) "__getattr__" = some none
  cA : findIn K (.ref C) "__class__" = some (some (.builtin "object.__class__"))
  cN : specialIn K (.builtin "object.__class__") "__get__" = some (some (.builtin "getset_descriptor.__get__"))
  cT : takesIn K (.builtin "object.__class__") = some true
  cM : mroIn K C (.type "object") = some true
  te : exmOne K (.ref C) (.ref C) = some true
  init : ∃ (fI : Addr) (fd : FuncData) (qual : Str) (st : Stmt), findIn K (.ref C) "__init__" = some (some (.ref fI)) ∧ typeIn K (.ref fI) = some (.type "function") ∧ L2.FunD K "__init__" qual (L2.defArgs st) (L2.defBody st) (L2.defScope st) [] [] fI fd ∧ OneField st f
theorem ErrC.xf {K : Frag} {mg : Str → Option Value} {x f : Str} {C : Addr} (T : ErrC K mg x f C) : L2.XfC K C := ⟨T.ga, T.gg, T.ofB, T.dct⟩
theorem ErrC.ec {K : Frag} {mg : Str → Option Value} {x f : Str} {C : Addr} (T : ErrC K mg x f C) : L2.ExcC K C := ⟨T.ga, T.gg, T.ofB, T.dct, T.cA, T.cN, T.cT, T.cM⟩
/-- the heap behind the first store into an error's own dict -/
structure Stored (h h' : Heap) (x C d t1 : Addr) (f : Str) (v : Value) : Prop where
  same : ∀ b o, b ≠ x → h.get? b = some o → h'.get? b = some o
  obj : h'.get? x = some { cls := .ref C, dict := some d, data := .fields #[.ref t1, .none, .none, .none, .bool false, .none] }
  new : h.objs.size ≤ d
  ne : d ≠ x
  ns : h'.Ns1 d (fun y => if y = f then some v else none)
section
variable {prog : Program} {w : World} {A : Around} {E : Value → Shared → Prop} {R : Result → Shared → Prop} {s : Shared} {K : Frag} {mg : Str → Option Value} {x f : Str} {C : Addr}
theorem cls_dct (T : ErrC K mg x f C) : ∃ cd, clsIn K C = some cd ∧ cd.hasDict = true := by
  have h := T.dct
  unfold hasDictIn at h
  cases e : clsIn K C with
  | none => simp [e] at h
  | some cd => exact ⟨cd, rfl, by simpa [e] using h⟩
/-- self.f = v, self a new error -/
theorem first_store (T : ErrC K mg x f C) {a t0 : Addr} {v : Value} {Q : Unit → Shared → Prop} (X : K.In s.heap) (ha : s.heap.get? a = some (HandSPX.excO C t0)) (hq : ∀ h' tk d, Stored s.heap h' a C d t0 f v → Q () { s with heap := h', toks := tk }) :
    wpAny (model prog w) A (setAttr (.ref a) f v) Q E s := by
  obtain ⟨cd, hc, hd⟩ := cls_dct T
  have at_ : W.InstAt s.heap a (HandSPX.excO C t0) C none := ⟨ha, rfl, rfl, trivial⟩
  refine set_plain X at_ T.setA ?_
  obtain ⟨hp, g, dr, tk, os⟩ := s
  refine osa_openX F.store_Exception X at_ T.over T.free fun b => ?_
  dsimp only
  unfold Builtin.ObjectAttr.storeInOwnDict Builtin.ObjectAttr.ownDictForStores
  have know : W.Looks (model prog w) hp (classData C) cd := W.looks_clsIn X hc
  have other : a ≠ hp.objs.size := Nat.ne_of_lt (Heap.lt_size ha)
  refine wpAny_bind (show wpAny _ _ (pure () : Sem Unit) _ _ _ from wpAny_pure ?_)
  rw [if_neg (fun h => by cases h)]
  refine wpAny_bind (instanceDict_exc (t := t0) (c2 := .none) ha know hd ?_)
  have fresh : ((hp.push (dictOf [] 0)).update a fun o => { o with dict := some hp.objs.size }).Ns hp.objs.size (fun _ => none) := by
    obtain ⟨o, es, ep, e1, e2⟩ := Heap.Ns.new hp (.type "dict")
    exact ⟨o, es, ep, (Heap.get?_update_ne _ _ _ _ (Ne.symm other)).trans e1, e2⟩
  refine HandSPX.store_in_new fresh fun h' tk' hn same => ?_
  have old : ∀ c o, c ≠ a → hp.get? c = some o → h'.get? c = some o := fun c o hc e =>
    (same.2 c (Nat.ne_of_lt (Heap.lt_size e))).trans ((Heap.get?_update_ne _ _ _ _ hc).trans (Heap.get?_push_of_some _ e))
  exact hq h' tk' hp.objs.size ⟨old, (same.2 a other).trans (Heap.get?_update_self _ (Heap.get?_push_of_some _ ha) rfl), Nat.le_refl _, Ne.symm other, hn⟩
theorem name_of {nm : Str} {sc : Scope} {L at_ : Addr} {cd v : Value} {m : Str → Option Value} {y : Str} {pos : Pos} {Q : Value → Shared → Prop} (hk : sc.kind = .function) (hl : sc.names.lookup y = some NameKind.local) (hd : (y == ("__debug__" : Str)) = false) (hn : s.heap.Ns L m) (hv : m y = some v) (q : Q v s) :
    wpAny (model prog w) A (eval (.Name y pos) (envOfC nm sc L at_ cd)) Q E s := by
  exact wpAny_Name (wpAny_loadName_local hk hl hn hv q) hd
/-- __init__ of an own error, its object at a new place -/
theorem run_init (T : ErrC K mg x f C) {fI a t0 : Addr} {fd : FuncData} {qual : Str} {st : Stmt} {v : Value} (F : L2.FunD K "__init__" qual (L2.defArgs st) (L2.defBody st) (L2.defScope st) [] [] fI fd) (O : OneField st f) (X : K.In s.heap) (free : s.heap.NoLimit) (ha : s.heap.get? a = some (HandSPX.excO C t0)) (room : A.depth < recursionLimit)
    (hq : ∀ h' tk d, Stored s.heap h' a C d t0 f v → R (.ok (.ret .none)) { s with heap := h', toks := tk }) : codeAny (model prog w) A (.call (.ref fI) ⟨[.ref a, v], []⟩) R s := by
  obtain ⟨oc, od, dV, kV, doc, pm, an, cdv, ct, osl, rfl, lk, hcd, dfl, kwd⟩ := F.ex
  obtain ⟨q1, q2, q3, q4, hb⟩ := O.body
  have nod : dV = .none := by
    rcases dfl with ⟨_, h⟩ | ⟨h, _⟩
    · exact h
    · exact absurd rfl h
  subst nod
  refine Att.call_fn (binds := [("self", .ref a), (f, v)]) X free lk hcd room (O.binds s "__init__" qual kV doc pm cdv ct an (.ref a) v) ?_ (fun s1 start => ?_) O.co O.gen O.kind
  · simp only [List.all_cons, List.all_nil, Bool.and_true, O.self, O.fld]
    rfl
  · obtain ⟨h1, tk1, rfl⟩ := start.toInCall.same
    have old := start.toInCall.keep
    have ns := start.toInCall.ns
    have ksf : (envOfC qual (L2.defScope st) s.heap.objs.size fI cdv).kindOf "self" = some NameKind.local := O.self
    have kf : (envOfC qual (L2.defScope st) s.heap.objs.size fI cdv).kindOf f = some NameKind.local := O.fld
    rw [hb]
    refine wpAny_execs_cons (plainObj_wpAny_Assign_Attribute (name_of O.kind O.fld O.dbg ns (v := v) ?_ (name_of O.kind O.self (by decide) ns (v := .ref a) ?_ ?_)))
    · simp [bindL, ksf, kf]
    · simp [bindL, ksf, kf, Ne.symm O.ne]
    · refine first_store T (X.keeps old) (old _ _ ha) fun h2 tk2 d z => ?_
      refine wpAny_execs_nil ?_
      have big : s.heap.objs.size ≤ d := Nat.le_trans (Nat.le_of_lt (Nat.lt_of_le_of_lt start.toInCall.fresh ns.lt)) z.new
      exact hq h2 tk2 d ⟨fun b o hb e => z.same b o hb (old b o e), z.obj, big, z.ne, z.ns⟩
/-- what stands behind x(v): an error at e, its dict at d, and all else as it was -/
structure New (h h' : Heap) (e C d : Addr) (f : Str) (v : Value) : Prop where
  old : ∀ b o, h.get? b = some o → h'.get? b = some o
  place : h.objs.size ≤ e
  obj : ∃ t1 : Addr, h'.get? e = some { cls := .ref C, dict := some d, data := .fields #[.ref t1, .none, .none, .none, .bool false, .none] }
  dict : h.objs.size ≤ d
  ne : d ≠ e
  ns : h'.Ns1 d (fun y => if y = f then some v else none)
theorem run_new (T : ErrC K mg x f C) {v : Value} (X : K.In s.heap) (free : s.heap.NoLimit) (room : A.depth + 1 < recursionLimit) (hq : ∀ h' tk e d, New s.heap h' e C d f v → R (.ok (.ret (.ref e))) { s with heap := h', toks := tk }) :
    codeAny (model prog w) A (.call (.ref C) ⟨[v], []⟩) R s := by
  obtain ⟨fI, fd, qual, st, hi, ht, FD, O⟩ := T.init
  obtain ⟨nm, N, qn, bs, bm, hdct, sn, sub, ab, col, dd, k0, k1, k2, k3, k5, hC, tail⟩ := excInit_of X T.shape
  obtain ⟨hp, g, dr, tk, os⟩ := s
  let h2 := (hp.push (kdv_tup [v])).push (HandSPX.excO C hp.objs.size)
  have old : ∀ b o, hp.get? b = some o → h2.get? b = some o := fun b o e => Heap.get?_push_of_some _ (Heap.get?_push_of_some _ e)
  have there : h2.get? (hp.objs.size + 1) = some (HandSPX.excO C hp.objs.size) := by
    show ((hp.push (kdv_tup [v])).push (HandSPX.excO C hp.objs.size)).get? (hp.objs.size + 1) = _
    heap_get
  refine HandSPX.call_own F.excBase_Exception tail hC (W.looks_findIn X hi) (fun self => bind_fn X self ht) (by rw [sizeLine_eq]; exact (by decide : 1 ≤ 16777216)) ?_
  refine run_init (s := ⟨h2, g, dr, tk, os⟩) T FD O (X.keeps old) (free.keeps old) there (by show A.depth + 1 < _; exact room) fun h' tk' d z => ?_
  have up : hp.objs.size ≤ d := by
    have a1 := z.new
    have a2 : h2.objs.size = hp.objs.size + 1 + 1 := by
      show ((hp.push (kdv_tup [v])).push (HandSPX.excO C hp.objs.size)).objs.size = _
      rw [Heap.size_push]; rw [Heap.size_push]
    have a3 : h2.objs.size ≤ d := a1
    omega
  exact ⟨rfl, hq h' tk' (hp.objs.size + 1) d ⟨fun b o e => z.same b o (Nat.ne_of_lt (Nat.lt_succ_of_lt (Heap.lt_size e))) (old b o e), Nat.le_succ _, ⟨_, z.obj⟩, up, z.ne, z.ns⟩⟩
end
end Xc
end PySem

namespace L2
open PySem PySem.Spec PyProof.Rows
/-- the dict of an error with one field -/
abbrev errD (f : Str) (v : V) : HO := .xd [(f, v)]
theorem rel_one {f : Str} {v : V} {u : Value} (r : RelV v u) (y : Str) : RelO (List.lookup y [(f, v)]) (if y = f then some u else none) := by
  by_cases h : y = f
  · subst h
    simp only [List.lookup, beq_self_eq_true, if_pos]
    exact r
  · have q : (y == f) = false := by simpa using h
    simp only [List.lookup, q, if_neg h]
    trivial
section
variable {X : Cx} {C : Addr} {x f : Str}
/-- x(e), x an own error class -/
def tErr (C : Addr) (f : Str) (ta : TA) : St → Hp → XK → Prop := fun σ H Q => ta σ H fun vs H1 => ∃ v, vs = [v] ∧ ∀ d, H1 d = none → Q (.ref C) (some d) (upd H1 d (errD f v))
theorem pmk_err {a : Expr} {ta : TA} {p pos : Pos} {k : Nat} (T : Xc.ErrC X.K X.mg x f C) (hr : Room k X.A) (ha : PA X [a] ta) (hg : Gl X x) (hdb : (x == ("__debug__" : Str)) = false := by decide)
    (each : starEach (a :: []) X.env = (false, eval a X.env) :: starEach [] X.env := by rfl) (plain : (backTo pos (starEach [] X.env)).any (·.1) = false := by rfl) : PMk X (.Call (.Name x p) [a] [] pos) (tErr C f ta) := by
  intro pins s σ H Q I h
  refine wpAny_Call_Name_kw (ld_glob I hg T.here ?_ hdb)
  refine PySem.W.callWith_K (h₀ := X.base) I.ok.mod.kin T.keep (thn (ha.run pos pins s σ H _ I h) fun us s1 z => ?_) each plain
  obtain ⟨vs, H1, I1, r1, v, rfl, q1⟩ := z
  refine ⟨I1.kIn, ?_⟩
  cases r1 with
  | cons rv rn =>
    cases rn
    rename_i u
    show wpAny _ _ (call (.ref C) [u]) _ _ (_)
    have free := I1.nolimit
    obtain ⟨hp, g, dr, tk, os⟩ := s1
    refine wpAny_call (Xc.run_new T I1.kIn free (by have := hr.dp; omega) fun h' tk' e d N => ?_)
    obtain ⟨t1, hobj⟩ := N.obj
    obtain ⟨G, g1, g2⟩ := restrict h' fun b => decide (b ≠ e)
    have on : ∀ b, b ≠ e → G.get? b = h'.get? b := fun b hb => g1 b (decide_eq_true hb)
    have off : G.get? e = none := g2 e (by simp)
    have keep : ∀ b o, hp.get? b = some o → G.get? b = some o := fun b o q => (on b (Nat.ne_of_lt (Nat.lt_of_lt_of_le (Heap.lt_size q) N.place))).trans (N.old b o q)
    have ob : ObjOk X.prog X.w (upd H1 d (errD f v)) G d (errD f v) := ⟨_, N.ns.at (fun o q => (on d N.ne).trans q), fun y => rel_one rv y⟩
    have J : Inv X pins σ (upd H1 d (errD f v)) ⟨G, g, dr, tk', os⟩ := I1.laid (t' := tk') keep N.dict ob
    have apart : e ≠ d := Ne.symm N.ne
    have un : upd H1 d (errD f v) e = none := by
      rw [upd_ne apart]
      exact I1.hok.fresh N.place
    refine ⟨e, _, _, ⟨G, g, dr, tk', os⟩, _, .ref C, some d, rfl, J, fun b o q => ?_, off, hobj, ⟨rfl, rfl⟩, rfl, rfl, un, rfl, I1.bare, raises_own T.ofB T.ty, q1 d (I1.hok.fresh N.dict)⟩
    have hb : b ≠ e := fun z => by rw [z, off] at q; cases q
    exact (on b hb).symm.trans q
/-- raise x(e) -/
theorem ps_raiseE {a : Expr} {ta : TA} {p pos pos' : Pos} {k : Nat} {W : WX} (T : Xc.ErrC X.K X.mg x f C) (hr : Room k X.A) (hc : X.calm = true) (tk : Takes X W) (ha : PA X [a] ta) (hg : Gl X x) (hdb : (x == ("__debug__" : Str)) = false := by decide)
    (each : starEach (a :: []) X.env = (false, eval a X.env) :: starEach [] X.env := by rfl) (plain : (backTo pos (starEach [] X.env)).any (·.1) = false := by rfl) :
    PS X (.Raise (some (.Call (.Name x p) [a] [] pos)) none pos') (fun _ σ H => tErr C f ta σ H fun cls d H' => W cls d σ H') := ps_raise hc tk (pmk_err T hr ha hg hdb each plain)
end
end L2
end
section
namespace W7
open PySem PySem.Spec PyProof.Rows L2 L3
open C8 (Cal pe_c Mak pe_mk Met pe_mt pe_mt0)
/-- a def that may raise: its promise tells what is raised, too -/
structure CalE (P : Program) (w : World) (K : PySem.W.Frag) (mg : Str → Option Value) (base : Heap) (k : Nat) (x : Str) (sp : Sp) : Prop where
  ex : ∃ (f : Addr) (fd : FuncData) (ps : List Str), FnOk P w K mg base (L2.CX P w) k f fd ps sp ∧ mg x = some (.ref f) ∧ PySem.W.keepIn K (.ref f) = true ∧ Binds K fd ps []
section
variable {P : Program} {w : World} {K : PySem.W.Frag} {mg : Str → Option Value} {base : Heap}
theorem mkCalE {x : Str} {st : Stmt} {f : Addr} {fd : FuncData} {N ps : List Str} {k : Nat} {sp : Sp} (F : FnP K x st f fd) (g : mg x = some (.ref f)) (S : FnScope N ps (defScope st))
    (hb : ∀ (kV doc pm : Value) (an : Option Addr) (cdv ct : Value) (us : List Value), us.length = ps.length → bindArgs (PySem.W.fnOf x x (defArgs st) (defBody st) (defScope st) .none kV doc pm an cdv ct) ⟨us, []⟩ = pure (ps.zip us))
    (len : ∀ vs H Q E, sp vs H Q E → vs.length = ps.length) (body : ∀ (cdv : Value) (A : Around) (outer : List Env) (s : Shared) (H : Hp) (vs : List V) (Q : VK) (E : XK), Room k (A.deeper (envOfC x (defScope st) s.heap.objs.size f cdv)) → sp vs H Q E →
      ∃ t, PSs (cxOf (L2.CX P w) P w K mg base N x (defScope st) f cdv A outer s H E) (defBody st) t ∧ t { nx := fun _ H' => Q .non H', rt := Q } (start N vs) H) : CalE P w K mg base (k + 1) x sp :=
  ⟨f, fd, ps, F.ok S len body, g, F.kp, F.bindsN hb⟩
/-- where nothing is raised it is a def like others -/
theorem CalE.calm {x : Str} {k : Nat} {sp sq : Sp} (c : CalE P w K mg base k x sp) (h : ∀ vs H Q E, sq vs H Q E → sp vs H Q L2.E0) : Cal P w K mg base k x sq [] := by
  obtain ⟨f, fd, ps, F, g, kp, b⟩ := c.ex
  refine ⟨f, fd, ps, [], ⟨fun vs H Q E q => F.len _ _ _ _ (h vs H Q E q), fun A outer s H args us vs Q E hr he hb hv q => ?_⟩, g, kp, b, .nil⟩
  refine codeAny_mono (F.run A outer s H args us vs Q L2.E0 hr he hb hv (h vs H Q E q)) fun r s' z => ?_
  cases r with
  | ok fl => cases fl <;> exact z
  | error e =>
    obtain ⟨_, _, _, _, _, _, _, _, _, _, _, _, z⟩ := z
    exact z.elim
end
section
variable {X : Cx} {k j : Nat} {x : Str} {sp : Sp} {p pos : Pos} {e : Expr} {es : List Expr} {t : TA} {W : WX}
theorem pe_cE (c : CalE X.prog X.w X.K X.mg X.base k x sp) (hr : Room j X.A) (hk : k ≤ j) (hg : Gl X x) (tk : Takes X W) (ha : PA X (e :: es) t) (hdb : (x == ("__debug__" : Str)) = false := by decide)
    (he : starEach (e :: es) X.env = (false, eval e X.env) :: starEach es X.env := by rfl) (hpl : (backTo pos (starEach es X.env)).any (·.1) = false := by rfl) : PE X (.Call (.Name x p) (e :: es) [] pos) (tCallS sp (WE W) t) := by
  obtain ⟨f, fd, ps, F, g, kp, b⟩ := c.ex
  exact pe_callS F (hr.mono hk) hg g kp b (fun σ => passAt tk σ) ha hdb he hpl
end
end W7
end
section
namespace W7
open PySem PySem.Spec PyProof.Rows L2 L3 Evl PySem.W
open C8 (Met Mak)
section
variable {K : Frag} {s : Shared} {w : World} {prog : Program} {E : Value → Shared → Prop} {A : Around}
theorem bin_add {a b C f : Addr} {ox oy : Obj} {od od2 : Option Obj} {cd : ClassData} {rest : List Value} {Q : Value → Shared → Prop} (X : K.In s.heap) (I : PySem.W.InstAt s.heap a ox C od) (I2 : PySem.W.InstAt s.heap b oy C od2) (hcl : clsIn K C = some cd) (hm : cd.mro = .ref C :: rest) (hs : findIn K (.ref C) (PySem.dunder "add") = some (some (.ref f))) (hf : isFn K (.ref f) = true)
    (h : wpAny (model prog w) A (call (.ref f) [.ref a, .ref b]) (PySem.W.CmpBack Q) E s) : wpAny (model prog w) A (binaryOp .Add (.ref a) (.ref b)) Q E s := by
  have one : wpAny (model prog w) A (binaryOp1 "add" (.ref a) (.ref b)) (fun r s' => ∃ v, r = some v ∧ Q v s') E s := by
    unfold binaryOp1
    dsimp only
    refine wpAny_bind (wpAny_typeOf_ref I.at_ ?_)
    refine wpAny_bind (wpAny_typeOf_ref I2.at_ ?_)
    rw [I.cls, I2.cls]
    refine wpAny_bind (fills_K X hcl hm hs A _ E s (fun _ _ h => h) ?_)
    rw [if_pos (by simp)]
    refine wpAny_bind (wpAny_pure (?_))
    simp only [Bool.and_false, Bool.false_and, Bool.false_eq_true, ↓reduceIte]
    apply wpAny_bind
    apply wpAny_pure
    rw [if_neg (by decide : ¬ (false = true))]
    refine wpAny_bind (wpAny_mono (ksp_try X I hs hf h) (fun r s' hr => ?_) fun _ _ e => e)
    obtain ⟨v, rfl, hv⟩ := hr
    exact wpAny_pure ⟨v, rfl, hv⟩
  unfold binaryOp
  refine wpAny_holding ?_
  dsimp only [Operator.info]
  refine wpAny_bind (wpAny_mono one (fun r s' hr => ?_) fun _ _ e => e)
  obtain ⟨v, rfl, hv⟩ := hr
  exact wpAny_pure hv
end
section
variable {X : Cx}
/-- a + b, both instances of one own class, by its own method -/
theorem op_addI {k j : Nat} {C : Addr} {sp : Sp} (m : Met X.prog X.w X.K X.mg X.base k C (PySem.dunder "add") sp []) (sf : selfFirst X.K C = true) (hr : Room j X.A) (hk : k ≤ j) : OpR X (binaryOp .Add) (rCmpI C sp) := by
  intro pins s σ H x y v u Q I rx ry ⟨a, dx, fs, b, dy, gs, ex, ey, ha, hb, q⟩
  subst ex
  subst ey
  obtain rfl : v = .ref a := rx
  obtain rfl : u = .ref b := ry
  obtain ⟨f, fd, ps, ds, cls, me, F, bd, vd⟩ := m.ex
  obtain ⟨_, oa, _⟩ := ins_get I.hok ha
  obtain ⟨_, ob, _⟩ := ins_get I.hok hb
  obtain ⟨_, ia, _⟩ := oa.look
  obtain ⟨_, ib, _⟩ := ob.look
  obtain ⟨cd, rest, hcl, hm⟩ := self_first sf
  have raw := F.raw bd vd
  refine bin_add I.kIn ia ib hcl hm me.at_ me.fn (wpAny_call (codeAny_mono (run_fnR (Q := Q) (E := C8.E0) raw (hr.mono hk) C8.pass0 I (us := [.ref a, .ref b]) (vs := [.ref a, .ref b]) (.cons rfl (.cons rfl .nil)) (by simpa using q)) fun r s' h => ?_))
  match r, h with
  | .ok (.ret v), h =>
    obtain ⟨z, H', I', rz, hz⟩ := h
    exact SlX.cmpback rz ⟨z, H', I', rz, hz⟩
  | .error e, h => exact h
/-- y(..), y a name that holds the class C -/
def tMkV (i : Nat) (C : Addr) (sp : Sp) (t : TA) : TE := fun σ H Q => σ[i]? = some (some (.ref C)) ∧ tMake C sp [] C8.E0 t σ H Q
theorem pe_mkV {k j i : Nat} {C : Addr} {x y : Str} {sp : Sp} {p pos : Pos} {e : Expr} {es : List Expr} {t : TA} (c : Mak X.prog X.w X.K X.mg X.base k x C sp []) (hr : Room j X.A) (hk : k + 1 ≤ j) (hN : X.N[i]? = some y) (hv : Vis X.env.scope y) (ha : PA X (e :: es) t) (hd : (y == ("__debug__" : Str)) = false := by decide) (hcd : (y == ("__classdict__" : Str)) = false := by decide)
    (he : starEach (e :: es) X.env = (false, eval e X.env) :: starEach es X.env := by rfl) (hpl : (backTo pos (starEach es X.env)).any (·.1) = false := by rfl) : PE X (.Call (.Name y p) (e :: es) [] pos) (tMkV i C sp t) := by
  constructor
  intro pins s σ H Q I ⟨hs, h⟩
  obtain ⟨f, fd, ps, ds, M, F, g, bd, vd⟩ := c.ex
  refine wpAny_Call_Name_kw (thn ((pe_var hN hv hd hcd).run pins s σ H (fun v H' => v = .ref C ∧ tMake C sp [] C8.E0 t σ H' Q) I ⟨_, hs, rfl, h⟩) fun v s1 came => ?_)
  obtain ⟨v0, H1, I1, r, rfl, h1⟩ := came
  obtain rfl : v = .ref C := r
  refine PySem.W.callWith_K (h₀ := X.base) I1.ok.mod.kin M.kp (thn (ha.run pos pins s1 σ H1 _ I1 h1) fun us s2 z => ?_) he hpl
  obtain ⟨vs, H2, I2, r2, q⟩ := z
  exact ⟨I2.kIn, run_make M F (hr.mono hk) bd vd C8.pass0 I2 r2 q⟩
end
end W7
end
section
namespace L3
open PySem PySem.Spec PySem.Calls PyProof.Rows L2
/-- {elt for t1 in i1 for t2 in i2} -/
abbrev twoFor (elt t1 i1 t2 i2 : Expr) (scope : Scope) (pos : Pos) : Expr := .SetComp elt [⟨t1, i1, [], 0⟩, ⟨t2, i2, [], 0⟩] scope pos
section
variable {prog : Program} {w : World} {A : Around} {R : Result → Shared → Prop} {s : Shared} {elt t1 i1 t2 i2 : Expr} {scope : Scope} {pos : Pos} {it acc : Value} {env : Env}
theorem near_turn (it acc : Value) (env : Env) : compTurn (twoFor elt t1 i1 t2 i2 scope pos) 1 it acc env = (do
    standAt i2.pos
    match ← pyNext it with
    | none => pure (.done .next)
    | some v => do
      letOwnedTupleGo t2 it v
      assign t2 env v
      (do
        let u ← eval elt env
        standAt elt.pos
        let _ ← call (.builtin "set.add") [acc, u])
      again (.compLoop (twoFor elt t1 i1 t2 i2 scope pos) 1 it acc env)) := by
  rfl
theorem far_turn (it acc : Value) (env : Env) : compTurn (twoFor elt t1 i1 t2 i2 scope pos) 0 it acc env = (do
    standAt i1.pos
    match ← pyNext it with
    | none => pure (.done .next)
    | some v => do
      letOwnedTupleGo t1 it v
      assign t1 env v
      let x ← eval i2 env
      standAt i2.pos
      let x ← foldedSetIterable i2 env x
      let _ ← runOwn (.compStart (twoFor elt t1 i1 t2 i2 scope pos) 1 (← holding [x] (pyIter x)) acc env) env
      again (.compLoop (twoFor elt t1 i1 t2 i2 scope pos) 0 it acc env)) := by
  rfl
/-- how errors of the block's own code go on -/
abbrev Noted (prog : Program) (w : World) (A : Around) (env : Env) (R : Result → Shared → Prop) : Value → Shared → Prop := notedBy (model prog w) A env fun e s' => R (.error e) s'
variable {I D : Addr} {fp wr : List Addr} {n : Nat} {Y : Nat → Value → Heap → Prop} {St : Nat → Heap → Prop} {G : Nat → Shared → Prop}
theorem near_loop (W : Goes prog w A t2 I fp wr n Y St) (hst : St 0 s.heap) (h0 : G 0 s)
    (keep : ∀ i s3 h3 tk3, G i s3 → (∀ b o, b ∉ wr → s3.heap.get? b = some o → h3.get? b = some o) → s3.toks ≤ tk3 → G i { s3 with heap := h3, toks := tk3 })
    (turn : ∀ i v s₁, i < n → Y i v s₁.heap → St (i + 1) s₁.heap → G i s₁ → wpAny (model prog w) A (assign t2 env v) (fun _ s₂ => wpAny (model prog w) A (eval elt env) (fun x s₃ => wpAny (model prog w) A (call (.builtin "set.add") [.ref D, x]) (fun _ s₄ => G (i + 1) s₄ ∧ St (i + 1) s₄.heap) (Noted prog w A env R) s₃) (Noted prog w A env R) s₂) (Noted prog w A env R) s₁)
    (done : ∀ s₁, G n s₁ → R (.ok .next) s₁) : codeAny (model prog w) A (.compLoop (twoFor elt t1 i1 t2 i2 scope pos) 1 (.ref I) (.ref D) env) R s := by
  refine codeAny_loop rfl (fun k s' => ∃ i, i ≤ n ∧ k = n - i ∧ St i s'.heap ∧ G i s') (fun k s1 now => ?_) (n - 0) ⟨0, Nat.zero_le _, rfl, hst, h0⟩
  obtain ⟨i, hi, rfl, st, g⟩ := now
  show wpAny (model prog w) A (Sem.onRaise (compTurn (twoFor elt t1 i1 t2 i2 scope pos) 1 (.ref I) (.ref D) env) fun x => do noteFrame x env; theTreesLotGoes x) _ _ _
  refine wpAny_noted ?_
  rw [near_turn]
  refine wpAny_bind (wpAny_standAt (wpAny_bind (?_)))
  by_cases more : i < n
  · refine wpAny_mono (W.goes i s1 (fun v s2 => wpAny (model prog w) A (assign t2 env v) (fun _ s3 => wpAny (model prog w) A (eval elt env) (fun x s4 => wpAny (model prog w) A (call (.builtin "set.add") [.ref D, x]) (fun _ s5 => G (i + 1) s5 ∧ St (i + 1) s5.heap) (Noted prog w A env R) s4) (Noted prog w A env R) s3) (Noted prog w A env R) s2) (Noted prog w A env R) more st fun v h' tk y st' same later => turn i v { s1 with heap := h', toks := tk } more y st' (keep i s1 h' tk g same later)) (fun r s2 z => ?_) fun _ _ z => z
    obtain ⟨v, rfl, z⟩ := z
    dsimp only
    refine wpAny_bind (wpAny_mono z (fun _ s3 z3 => ?_) fun _ _ z => z)
    refine wpAny_bind (wpAny_mono z3 (fun _ s4 z4 => ?_) fun _ _ z => z)
    refine wpAny_bind (wpAny_bind (wpAny_mono z4 (fun x s5 z5 => ?_) fun _ _ z => z))
    refine wpAny_bind (wpAny_standAt (wpAny_bind (wpAny_mono z5 (fun _ s6 z6 => ?_) fun _ _ z => z)))
    refine wpAny_pure (wpAny_pure ⟨rfl, n - (i + 1), by omega, i + 1, more, rfl, z6.2, z6.1⟩)
  · have e : i = n := by omega
    subst e
    refine wpAny_mono (W.stops s1 (fun s2 => R (.ok .next) s2) _ st fun h' tk same later => done _ (keep i s1 h' tk g same later)) (fun r s2 z => ?_) fun _ _ z => z
    obtain ⟨rfl, z⟩ := z
    exact wpAny_pure z
/-- the inner walk begins -/
theorem near_start {it acc : Value} (h0 : codeAny (model prog w) A (.compLoop (twoFor elt t1 i1 t2 i2 scope pos) 1 it acc env) R s)
    (h : wpAny (model prog w) A (pyIter it) (fun it' s' => codeAny (model prog w) A (.compLoop (twoFor elt t1 i1 t2 i2 scope pos) 1 it' acc env) R s') (Noted prog w A env R) s) : codeAny (model prog w) A (.compStart (twoFor elt t1 i1 t2 i2 scope pos) 1 it acc env) R s := by
  refine codeAny_loop' rfl (fun _ s' => s' = s) (fun k s1 same => ?_) 0 rfl
  subst same
  show wpAny (model prog w) A (Sem.onRaise (compStart (twoFor elt t1 i1 t2 i2 scope pos) 1 it acc env) fun x => do noteFrame x env; standAt _) _ _ _
  refine wpAny_notedAt ?_
  unfold compStart
  show wpAny (model prog w) A (ask >>= _) _ _ _
  refine wpAny_bind (wpAny_askSetting (?_))
  refine wpAny_ite (ite2 (fun _ => wpAny_pure (.inr ⟨rfl, h0⟩)) fun _ => ?_)
  refine wpAny_bind (wpAny_rule (wpAny_bind (wpAny_standAt (wpAny_bind (wpAny_mono h (fun it' s' z => wpAny_pure (.inr ⟨rfl, z⟩)) fun _ _ z => z)))))
theorem mark_none {A : Around} (hh : A.handled = none) : A.mark none = A := by
  cases A
  cases hh
  rfl
/-- the inner walk, over all that the outer loop lets it see -/
def Near (prog : Program) (w : World) (A : Around) (e : Expr) (env : Env) (D : Addr) (Out : Shared → Prop) (x : Value) (s : Shared) : Prop :=
  wpAny (model prog w) A (pyIter x) (fun it s1 => codeAny (model prog w) A (.compStart e 1 it (.ref D) env) (fun r s2 => ∃ f, r = .ok f ∧ Out s2) s1) (fun _ _ => False) s
theorem far_loop (hh : A.handled = none) (hs : ∀ x, foldedSetIterable i2 env x = pure x) (W : Goes prog w A t1 I fp wr n Y St) (hst : St 0 s.heap) (h0 : G 0 s)
    (keep : ∀ i s3 h3 tk3, G i s3 → (∀ b o, b ∉ wr → s3.heap.get? b = some o → h3.get? b = some o) → s3.toks ≤ tk3 → G i { s3 with heap := h3, toks := tk3 })
    (turn : ∀ i v s₁, i < n → Y i v s₁.heap → St (i + 1) s₁.heap → G i s₁ → wpAny (model prog w) A (assign t1 env v) (fun _ s₂ => wpAny (model prog w) A (eval i2 env) (fun x s₃ => Near prog w A (twoFor elt t1 i1 t2 i2 scope pos) env D (fun s₄ => G (i + 1) s₄ ∧ St (i + 1) s₄.heap) x s₃) (Noted prog w A env R) s₂) (Noted prog w A env R) s₁)
    (done : ∀ s₁, G n s₁ → R (.ok .next) s₁) : codeAny (model prog w) A (.compLoop (twoFor elt t1 i1 t2 i2 scope pos) 0 (.ref I) (.ref D) env) R s := by
  refine codeAny_loop rfl (fun k s' => ∃ i, i ≤ n ∧ k = n - i ∧ St i s'.heap ∧ G i s') (fun k s1 now => ?_) (n - 0) ⟨0, Nat.zero_le _, rfl, hst, h0⟩
  obtain ⟨i, hi, rfl, st, g⟩ := now
  show wpAny (model prog w) A (Sem.onRaise (compTurn (twoFor elt t1 i1 t2 i2 scope pos) 0 (.ref I) (.ref D) env) fun x => do noteFrame x env; theTreesLotGoes x) _ _ _
  refine wpAny_noted ?_
  rw [far_turn]
  refine wpAny_bind (wpAny_standAt (wpAny_bind (?_)))
  by_cases more : i < n
  · refine wpAny_mono (W.goes i s1 (fun v s2 => wpAny (model prog w) A (assign t1 env v) (fun _ s3 => wpAny (model prog w) A (eval i2 env) (fun x s4 => Near prog w A (twoFor elt t1 i1 t2 i2 scope pos) env D (fun s5 => G (i + 1) s5 ∧ St (i + 1) s5.heap) x s4) (Noted prog w A env R) s3) (Noted prog w A env R) s2) (Noted prog w A env R) more st fun v h' tk y st' same later => turn i v { s1 with heap := h', toks := tk } more y st' (keep i s1 h' tk g same later)) (fun r s2 z => ?_) fun _ _ z => z
    obtain ⟨v, rfl, z⟩ := z
    dsimp only
    refine wpAny_bind (wpAny_mono z (fun _ s3 z3 => ?_) fun _ _ z => z)
    refine wpAny_bind (wpAny_mono z3 (fun _ s4 z4 => ?_) fun _ _ z => z)
    refine wpAny_bind (wpAny_mono z4 (fun x s5 z5 => ?_) fun _ _ z => z)
    refine wpAny_bind (wpAny_standAt (wpAny_bind (?_)))
    rw [hs]
    refine wpAny_pure (wpAny_bind (wpAny_holding (wpAny_mono z5 (fun it s6 z6 => ?_) fun _ _ z => z.elim)))
    refine wpAny_bind (wpAny_runOwn (?_))
    rw [mark_none hh]
    refine codeAny_mono z6 fun r s7 z7 => ?_
    obtain ⟨f, rfl, z7⟩ := z7
    exact wpAny_pure ⟨rfl, n - (i + 1), by omega, i + 1, more, rfl, z7.2, z7.1⟩
  · have e : i = n := by omega
    subst e
    refine wpAny_mono (W.stops s1 (fun s2 => R (.ok .next) s2) _ st fun h' tk same later => done _ (keep i s1 h' tk g same later)) (fun r s2 z => ?_) fun _ _ z => z
    obtain ⟨rfl, z⟩ := z
    exact wpAny_pure z
end
end L3
end
section
namespace L3
open PySem PySem.Spec PySem.Calls PyProof.Rows L2
/-- one more in a list of members -/
def putI (L : List Int) (k : Int) : List Int := if k ∈ L then L else L ++ [k]
theorem putI_mem {L : List Int} {k j : Int} : j ∈ putI L k ↔ j ∈ L ∨ j = k := by
  unfold putI
  split
  · rename_i h
    exact ⟨.inl, fun z => z.elim id fun e => e ▸ h⟩
  · simp
theorem putI_nodup {L : List Int} {k : Int} (h : L.Nodup) : (putI L k).Nodup := by
  unfold putI
  split
  · exact h
  · rename_i hk
    exact List.nodup_append.mpr ⟨h, by simp, fun a ha b hb e => hk (by rw [List.mem_singleton.mp hb] at e; exact e ▸ ha)⟩
theorem putI_len {L : List Int} {k : Int} : (putI L k).length = if decide (k ∈ L) = true then L.length else L.length + 1 := by
  unfold putI
  by_cases h : k ∈ L
  · rw [if_pos h, if_pos (decide_eq_true h)]
  · rw [if_neg h, if_neg (by simp [h]), List.length_append]; rfl
theorem putI_fun {L : List Int} {k : Int} : (fun j => decide (j ∈ L) || decide (j = k)) = fun j => decide (j ∈ putI L k) := by
  funext j
  rw [← Bool.decide_or]
  exact decide_eq_decide.mpr putI_mem.symm
abbrev nvI (ns : List Nat) : List V := ns.map fun n => V.int ((n : Nat) : Int)
theorem int_of {ns : List Nat} {its : List Value} {i : Nat} {v : Value} (h : Vals (nvI ns) its) (e : its.toArray[i]? = some v) : ∃ (n : Nat) (t : Tok), ns[i]? = some n ∧ v = .int ((n : Nat) : Int) t := by
  have e' : its[i]? = some v := by simpa using e
  have hi : i < its.length := (List.getElem?_eq_some_iff.mp e').1
  have hl : its.length = ns.length := by rw [← Paired.length h]; simp [nvI]
  have hi2 : i < ns.length := by omega
  obtain ⟨u, ui, ru⟩ := h.get (xs := nvI ns) (i := i) (x := V.int ((ns[i] : Nat) : Int)) (by simp [nvI, hi2])
  rw [e'] at ui
  cases ui
  obtain ⟨t, rfl⟩ := ru
  exact ⟨ns[i], t, List.getElem?_eq_getElem hi2, rfl⟩
/-- {x ^ y for x in xs for y in ys}, ys the name in slot i -/
def tXors (K : PySem.W.Frag) (w : World) (tl : TE) (i : Nat) : TE := fun σ H Q => tl σ H fun v H1 => ∃ (a b : Addr) (ns ms : List Nat), v = .ref a ∧ SqL K H1 a (nvI ns) ∧ σ[i]? = some (some (.ref b)) ∧ SqL K H1 b (nvI ms) ∧ ns.length * ms.length < 4000 ∧
  ∀ (D : Addr) (L : List Int), H1 D = none → L.Nodup → (∀ k : Int, k ∈ L ↔ ∃ n ∈ ns, ∃ m ∈ ms, k = ((n ^^^ m : Nat) : Int)) → Q (.ref D) (upd H1 D (SetO w D (fun k => decide (k ∈ L)) L.length))
section
variable {X : Cx} {σ : L2.St} {H : Hp} {s : Shared} {pins : List (Addr × Obj)}
theorem same_new {H1 : Hp} {D : Addr} {o : HO} (h : H1 D = none) : Same H1 (upd H1 D o) := fun b u e => by
  rw [upd_ne fun z => by rw [z, h] at e; cases e]
  exact e
/-- one more member -/
theorem put_int {D : Addr} {L : List Int} {k : Int} {tk : Tok} {H1 : Hp} {E : Value → Shared → Prop} {Q : Value → Shared → Prop} (J : Inv X pins σ (upd H1 D (SetO X.w D (fun k => decide (k ∈ L)) L.length)) s) (room : L.length + 1 < 4096)
    (h : ∀ h' t', Heap.SameBut D s.heap h' → Inv X pins σ (upd H1 D (SetO X.w D (fun j => decide (j ∈ putI L k)) (putI L k).length)) { s with heap := h', toks := t' } → Q .none { s with heap := h', toks := t' }) :
    wpAny (model X.prog X.w) X.A (call (.builtin "set.add") [.ref D, .int k tk]) Q E s := by
  refine setR_add (setO_get J upd_same) room fun h' same R => h h' _ same ?_
  rw [← putI_len, putI_fun] at R
  have z := d_write (t' := s.toks + 1) (ob := SetO X.w D (fun j => decide (j ∈ putI L k)) (putI L k).length) J (by rw [upd_same]; trivial) same (by obtain ⟨o, _, _, _, e, _⟩ := R; exact ⟨o, e⟩) (setO_new R)
  rw [upd_upd] at z
  exact z
/-- the places of the block, and what its names mean -/
structure Blk (X : Cx) (cenv : Env) (x y z : Str) (C c0 : Addr) : Prop where
  kind : cenv.scope.kind = .function
  kx : cenv.kindOf x = some .local
  ky : cenv.kindOf y = some .local
  kz : cenv.kindOf z = some .cell
  here : cenv.cells.lookup z = some c0
  there : X.env.cells.lookup z = some c0
  loc : cenv.locals = C
  ne : x ≠ y
  dx : (x == ("__debug__" : Str)) = false
  dy : (y == ("__debug__" : Str)) = false
  dz : (z == ("__debug__" : Str)) = false
theorem xors_core {R : Result → Shared → Prop} {cenv : Env} {x y z : Str} {iter : Expr} {scope : Scope} {p1 p2 p3 p4 p5 p6 pos : Pos} {i : Nat} {N D C c0 a b : Addr} {ns ms : List Nat} {its : List Value} {H1 : Hp} {h3 : Heap} {t3 : Nat} (hand : X.A.handled = none) (B : Blk X cenv x y z C c0)
    (hN : X.N[i]? = some z) (vz : Vis X.env.scope z) (kz : X.env.kindOf z = some .cell) (hi : σ[i]? = some (some (.ref b))) (I1 : Inv X pins σ H1 s) (rv : Vals (nvI ns) its) (hl : s.heap.IsList a its.toArray) (hb : SqL X.K H1 b (nvI ms)) (few : ns.length * ms.length < 4000)
    (old : ∀ b o, s.heap.get? b = some o → h3.get? b = some o) (nN : s.heap.objs.size ≤ N) (nD : s.heap.objs.size ≤ D) (nC : s.heap.objs.size ≤ C) (ND : N ≠ D) (NC : N ≠ C) (DC : D ≠ C) (hit : h3.IsListIter N a 0) (hset : SetR X.w h3 D (fun _ => false) 0) (hns : h3.Ns C fun _ => none)
    (done : ∀ (s' : Shared) (L : List Int) (m : Str → Option Value), L.Nodup → (∀ k : Int, k ∈ L ↔ ∃ n ∈ ns, ∃ t ∈ ms, k = ((n ^^^ t : Nat) : Int)) → Inv X pins σ (upd H1 D (SetO X.w D (fun k => decide (k ∈ L)) L.length)) s' → s'.heap.Ns C m → R (.ok .next) s') :
    codeAny (model X.prog X.w) X.A (.compLoop (twoFor (.BinOp (.Name x p1) .BitXor (.Name y p2) p3) (.Name x p4) iter (.Name y p5) (.Name z p6) scope pos) 0 (.ref N) (.ref D) cenv) R { s with heap := h3, toks := t3 } := by
  have lc := B.loc
  subst lc
  have free : H1 D = none := I1.hok.fresh nD
  have low0 : b < s.heap.objs.size := by
    obtain ⟨_, _, lb, _⟩ := I1.list hb
    obtain ⟨o, e, _⟩ := lb.isList
    exact Heap.lt_size e
  have aN : a ≠ N := by
    obtain ⟨o, ho, _⟩ := hl
    exact Nat.ne_of_lt (Nat.lt_of_lt_of_le (Heap.lt_size ho) nN)
  have outside : ∀ (o : HO) (c : Addr), s.heap.objs.size ≤ c → c ≠ D → FpOk X pins (upd H1 D o) c := fun o c hc ne => I1.fpOk hc (by rw [upd_ne ne]; exact I1.hok.fresh hc)
  have begin_ : Inv X pins σ (upd H1 D (SetO X.w D (fun k => decide (k ∈ ([] : List Int))) 0)) { s with heap := h3, toks := t3 } := by
    have e : (fun k : Int => decide (k ∈ ([] : List Int))) = fun _ => false := by funext k; simp
    rw [e]
    exact I1.laid old nD (setO_new hset)
  have W := Goes.list (prog := X.prog) (w := X.w) (A := X.A) (target := .Name x p4) hand N a aN its.toArray
  have many : its.length = ns.length := by rw [← Paired.length rv]; simp [nvI]
  refine far_loop (G := fun i s' => ∃ (L : List Int) (m : Str → Option Value), L.Nodup ∧ (∀ k : Int, k ∈ L ↔ ∃ n ∈ ns.take i, ∃ t ∈ ms, k = ((n ^^^ t : Nat) : Int)) ∧ L.length ≤ i * ms.length ∧ Inv X pins σ (upd H1 D (SetO X.w D (fun k => decide (k ∈ L)) L.length)) s' ∧ s'.heap.Ns cenv.locals m)
    hand (fun _ => rfl) W ⟨hit, hl.imp fun o z => ⟨old _ _ z.1, z.2⟩⟩ ⟨[], _, List.nodup_nil, fun k => by simp, Nat.zero_le _, begin_, hns⟩ ?_ ?_ ?_
  · rintro j s' h' tk ⟨L, m, nd, mem, len, J, nsC⟩ same _
    refine ⟨L, m, nd, mem, len, J.turnedL (ch := [N]) same fun c hc => ?_, nsC.at fun o e => same _ o (fun hc => NC (List.mem_singleton.mp hc).symm) e⟩
    rw [List.mem_singleton.mp hc]
    exact outside _ N nN ND
  · rintro j v s4 lt yv st ⟨L, m, nd, mem, len, J, nsC⟩
    obtain ⟨n, tn, hn, rfl⟩ := int_of rv yv
    have jl : j < ns.length := (List.getElem?_eq_some_iff.mp hn).1
    refine wpAny_assign_Name (wpAny_storeName_local B.kx nsC (hp := by rw [B.kind]; rfl) fun h4 ns4 same4 => ?_)
    have J4 : ∀ t, Inv X pins σ (upd H1 D (SetO X.w D (fun k => decide (k ∈ L)) L.length)) { s4 with heap := h4, toks := t } := fun t =>
      J.turnedL (t' := t) (ch := [cenv.locals]) (fun c o hc e => (same4.2 c fun q => hc (List.mem_singleton.mpr q)).trans e) fun c hc => by rw [List.mem_singleton.mp hc]; exact outside _ _ nC DC.symm
    have cell : ∀ t, ({ s4 with heap := h4, toks := t } : Shared).heap.IsCell c0 (some (.ref b)) := fun t => by
      obtain ⟨m0, _, look⟩ := (J4 t).loc
      obtain ⟨u, ru, lk⟩ := look i z (.ref b) hN hi vz
      obtain rfl : u = .ref b := ru
      rcases lk with ⟨e, _⟩ | ⟨_, c, e, ic⟩
      · rw [kz] at e; cases e
      · rw [B.there] at e; cases e; exact ic
    refine wpAny_Name (wpAny_loadName_cell B.kind B.kz B.here (cell _) ?_) B.dz
    obtain ⟨its2, rv2, lst2, _⟩ := (J4 (s4.toks + 1)).list (Same.seq (same_new free) hb)
    have many2 : its2.length = ms.length := by rw [← Paired.length rv2]; simp [nvI]
    refine wpAny_pyIter_list lst2.isList ?_
    obtain ⟨N2, hN2⟩ : ∃ N2, N2 = h4.objs.size := ⟨_, rfl⟩
    dsimp only
    rw [← hN2]
    have it2 : (h4.push { cls := .type "list_iterator", data := .fields #[.ref b, .int 0 0] }).IsListIter N2 b 0 := ⟨_, hN2 ▸ Heap.get?_push_size h4 rfl, rfl, rfl⟩
    have up : ∀ c o, h4.get? c = some o → (h4.push { cls := .type "list_iterator", data := .fields #[.ref b, .int 0 0] }).get? c = some o := fun c o e => Heap.get?_push_of_some _ e
    have lowD : D < h4.objs.size := by
      obtain ⟨o, _, _, _, e, _⟩ := setO_get (J4 0) upd_same
      exact Heap.lt_size e
    have lowC : cenv.locals < h4.objs.size := ns4.lt
    have lowN : N < h4.objs.size := by
      obtain ⟨o, e, _⟩ := st.1
      exact Heap.lt_size ((same4.2 N NC).trans e)
    have lowa : a < h4.objs.size := by
      obtain ⟨o, e, _⟩ := hl
      exact Nat.lt_of_lt_of_le (Heap.lt_size e) (Nat.le_trans nN (Nat.le_of_lt lowN))
    have lowb : b < h4.objs.size := by
      obtain ⟨o, e, _⟩ := lst2.isList
      exact Heap.lt_size e
    have aC : a ≠ cenv.locals := by
      obtain ⟨o, e, _⟩ := hl
      exact Nat.ne_of_lt (Nat.lt_of_lt_of_le (Heap.lt_size e) nC)
    have aD : a ≠ D := by
      obtain ⟨o, e, _⟩ := hl
      exact Nat.ne_of_lt (Nat.lt_of_lt_of_le (Heap.lt_size e) nD)
    have bN2 : b ≠ N2 := hN2 ▸ Nat.ne_of_lt lowb
    have bD : b ≠ D := Nat.ne_of_lt (Nat.lt_of_lt_of_le low0 nD)
    have bC : b ≠ cenv.locals := Nat.ne_of_lt (Nat.lt_of_lt_of_le low0 nC)
    have NN2 : N ≠ N2 := hN2 ▸ Nat.ne_of_lt lowN
    have DN2 : D ≠ N2 := hN2 ▸ Nat.ne_of_lt lowD
    have CN2 : cenv.locals ≠ N2 := hN2 ▸ Nat.ne_of_lt lowC
    have aN2 : a ≠ N2 := hN2 ▸ Nat.ne_of_lt lowa
    have out2 : ∀ o : HO, FpOk X pins (upd H1 D o) N2 := fun o => outside _ N2 (hN2 ▸ Nat.le_trans nN (Nat.le_of_lt lowN)) DN2.symm
    have W2 := Goes.list (prog := X.prog) (w := X.w) (A := X.A) (target := .Name y p5) hand N2 b bN2 its2.toArray
    have J5 : ∀ t, Inv X pins σ (upd H1 D (SetO X.w D (fun k => decide (k ∈ L)) L.length)) { s4 with heap := h4.push { cls := .type "list_iterator", data := .fields #[.ref b, .int 0 0] }, toks := t } := fun t => Inv.turnedL (s := { s4 with heap := h4, toks := t }) (t' := t) (ch := []) (J4 t) (fun c o _ e => up c o e) fun c hc => by cases hc
    have bound : L.length + ms.length ≤ ns.length * ms.length := by
      have : (j + 1) * ms.length ≤ ns.length * ms.length := Nat.mul_le_mul_right _ jl
      rw [Nat.succ_mul] at this
      omega
    have loop : codeAny (model X.prog X.w) X.A (.compLoop (twoFor (.BinOp (.Name x p1) .BitXor (.Name y p2) p3) (.Name x p4) iter (.Name y p5) (.Name z p6) scope pos) 1 (.ref N2) (.ref D) cenv) (fun r s2 => ∃ f, r = .ok f ∧ ((∃ (L : List Int) (m : Str → Option Value), L.Nodup ∧ (∀ k : Int, k ∈ L ↔ ∃ n ∈ ns.take (j + 1), ∃ t ∈ ms, k = ((n ^^^ t : Nat) : Int)) ∧ L.length ≤ (j + 1) * ms.length ∧ Inv X pins σ (upd H1 D (SetO X.w D (fun k => decide (k ∈ L)) L.length)) s2 ∧ s2.heap.Ns cenv.locals m) ∧ s2.heap.IsListIter N a (j + 1) ∧ s2.heap.IsList a its.toArray))
        { s4 with heap := h4.push { cls := .type "list_iterator", data := .fields #[.ref b, .int 0 0] }, toks := s4.toks + 1 } := by
      refine near_loop (G := fun j2 s' => ∃ (L' : List Int) (m' : Str → Option Value), L'.Nodup ∧ (∀ k : Int, k ∈ L' ↔ k ∈ L ∨ ∃ t ∈ ms.take j2, k = ((n ^^^ t : Nat) : Int)) ∧ L'.length ≤ L.length + j2 ∧ Inv X pins σ (upd H1 D (SetO X.w D (fun k => decide (k ∈ L')) L'.length)) s' ∧ s'.heap.Ns cenv.locals m' ∧ m' x = some (.int ((n : Nat) : Int) tn) ∧ s'.heap.IsListIter N a (j + 1) ∧ s'.heap.IsList a its.toArray)
        W2 ⟨it2, lst2.isList.imp fun o z => ⟨up _ _ z.1, z.2⟩⟩ ⟨L, _, nd, fun k => by simp, Nat.le_refl _, J5 _, ns4.at fun o e => up _ _ e, if_pos rfl, ?_, ?_⟩ ?_ ?_ ?_
      · obtain ⟨o, e, e2⟩ := st.1
        exact ⟨o, up _ _ ((same4.2 N NC).trans e), e2⟩
      · obtain ⟨o, e, e2⟩ := st.2
        exact ⟨o, up _ _ ((same4.2 a aC).trans e), e2⟩
      · rintro j2 s' h' tk ⟨L', m', nd', mem', len', J', ns', hx', ⟨o1, g1, d1⟩, o2, g2, d2⟩ same _
        refine ⟨L', m', nd', mem', len', J'.turnedL (ch := [N2]) same fun c hc => ?_, ns'.at fun o e => same _ o (fun hc => ?_) e, hx', ⟨o1, same _ _ (fun hc => ?_) g1, d1⟩, o2, same _ _ (fun hc => ?_) g2, d2⟩
        · rw [List.mem_singleton.mp hc]; exact out2 _
        · exact CN2 (List.mem_singleton.mp hc)
        · exact NN2 (List.mem_singleton.mp hc)
        · exact aN2 (List.mem_singleton.mp hc)
      · rintro j2 v s6 lt2 yv2 st2 ⟨L', m', nd', mem', len', J', ns', hx', ⟨o1, g1, d1⟩, o2, g2, d2⟩
        obtain ⟨t, tt, ht, rfl⟩ := int_of rv2 yv2
        have j2l : j2 < ms.length := (List.getElem?_eq_some_iff.mp ht).1
        refine wpAny_assign_Name (wpAny_storeName_local B.ky ns' (hp := by rw [B.kind]; rfl) fun h7 ns7 same7 => ?_)
        refine wpAny_BinOp (wpAny_Name (wpAny_loadName_local B.kind B.kx ns7 (by rw [if_neg B.ne]; exact hx') (wpAny_Name (wpAny_loadName_local B.kind B.ky ns7 (if_pos rfl) (xor_int ?_)) B.dy)) B.dx)
        rw [xor_nat]
        have J7 : ∀ t, Inv X pins σ (upd H1 D (SetO X.w D (fun k => decide (k ∈ L')) L'.length)) { s6 with heap := h7, toks := t } := fun t =>
          J'.turnedL (t' := t) (ch := [cenv.locals]) (fun c o hc e => (same7.2 c fun q => hc (List.mem_singleton.mpr q)).trans e) fun c hc => by rw [List.mem_singleton.mp hc]; exact outside _ _ nC DC.symm
        refine put_int (J7 _) (by omega) fun h8 t8 same8 J8 => ⟨⟨putI L' ((n ^^^ t : Nat) : Int), _, putI_nodup nd', fun k => ?_, ?_, J8, ns7.sameBut same8 DC.symm, ?_, ⟨o1, (same8.2 N ND).trans ((same7.2 N NC).trans g1), d1⟩, o2, (same8.2 a aD).trans ((same7.2 a aC).trans g2), d2⟩, ?_, ?_⟩
        · rw [putI_mem, mem' k, List.take_add_one, ht, Option.toList_some]
          simp only [List.mem_append, List.mem_singleton]
          constructor
          · rintro ((h | ⟨u, hu, e⟩) | e)
            · exact .inl h
            · exact .inr ⟨u, .inl hu, e⟩
            · exact .inr ⟨t, .inr rfl, e⟩
          · rintro (h | ⟨u, hu | hu, e⟩)
            · exact .inl (.inl h)
            · exact .inl (.inr ⟨u, hu, e⟩)
            · rw [hu] at e; exact .inr e
        · rw [putI_len]
          split <;> omega
        · rw [if_neg B.ne]; exact hx'
        · obtain ⟨o, e, e2⟩ := st2.1
          exact ⟨o, (same8.2 N2 DN2.symm).trans ((same7.2 N2 CN2.symm).trans e), e2⟩
        · obtain ⟨o, e, e2⟩ := st2.2
          exact ⟨o, (same8.2 b bD).trans ((same7.2 b bC).trans e), e2⟩
      · rintro s' ⟨L', m', nd', mem', len', J', ns', hx', outer⟩
        have all : ms.take its2.toArray.size = ms := List.take_of_length_le (by simp [many2])
        rw [all] at mem'
        refine ⟨_, rfl, ⟨L', m', nd', fun k => ?_, ?_, J', ns'⟩, outer⟩
        · rw [mem' k, mem k, List.take_add_one, hn, Option.toList_some]
          simp only [List.mem_append, List.mem_singleton]
          constructor
          · rintro (⟨u, hu, w⟩ | w)
            · exact ⟨u, .inl hu, w⟩
            · exact ⟨n, .inr rfl, w⟩
          · rintro ⟨u, hu | hu, w⟩
            · exact .inl ⟨u, hu, w⟩
            · rw [hu] at w; exact .inr w
        · rw [Nat.succ_mul]
          have : its2.toArray.size = ms.length := by simp [many2]
          omega
    exact near_start loop (W2.self 0 _ _ _ ⟨it2, lst2.isList.imp fun o z => ⟨up _ _ z.1, z.2⟩⟩ loop)
  · rintro s' ⟨L, m, nd, mem, len, J, nsC⟩
    have all : ns.take its.toArray.size = ns := List.take_of_length_le (by simp [many])
    rw [all] at mem
    exact done s' L m nd mem J nsC
theorem pe_xors {x y z : Str} {iter : Expr} {scope : Scope} {p1 p2 p3 p4 p5 p6 pos : Pos} {tl : TE} {own : List (Str × Nat)} {i : Nat} (hc : X.calm = true) (ok : BlkOk X.N X.env.scope scope own) (he : PE X iter tl)
    (hN : X.N[i]? = some z) (hcellz : X.env.scope.names.lookup z = some .cell := by rfl) (hrx : (relabel scope X.env).names.lookup x = some .local := by rfl) (hry : (relabel scope X.env).names.lookup y = some .local := by rfl) (hrz : (relabel scope X.env).names.lookup z = some .cell := by rfl)
    (hpc : ∀ h : Heap, pushCells h scope.names = h := by intro _; rfl) (hcf : ∀ (n : Nat) (cl : List (Str × Addr)), cellsFrom n scope.names cl = cl := by intro _ _; rfl) (hclo : ∀ cs : List (Str × Addr), (cloFrom cs scope.names []).lookup z = some ((cs.lookup z).getD 0) := by intro _; rfl)
    (hxy : x ≠ y := by decide) (dx : (x == ("__debug__" : Str)) = false := by decide) (dy : (y == ("__debug__" : Str)) = false := by decide) (dz : (z == ("__debug__" : Str)) = false := by decide)
    (hs : ∀ u, foldedSetIterable iter X.env u = pure u := by intro _; rfl) :
    PE X (.SetComp (.BinOp (.Name x p1) .BitXor (.Name y p2) p3) [⟨.Name x p4, iter, [], 0⟩, ⟨.Name y p5, .Name z p6, [], 0⟩] scope pos) (tXors X.K X.w tl i) := by
  constructor
  intro pins s σ H Q I h
  have frees : ∀ y ∈ scope.names, y.2 = .free → ∃ c, X.env.cells.lookup y.1 = some c := fun y m q => I.ok.has _ (ok.free y m q)
  rw [PpSet.eval_SetComp]
  refine comprehension_at (g := ⟨.Name x p4, iter, [], 0⟩) (gs := [⟨.Name y p5, .Name z p6, [], 0⟩]) rfl hs (closure_ok frees) ok.kind (fun y m q => (ok.uniq y m).trans (congrArg some q)) ?_
  refine thn (he.run pins s σ H _ I h) fun v s1 came => ?_
  obtain ⟨v0, H1, I1, r, a, b, ns, ms, rfl, ha, hi, hb, few, q⟩ := came
  obtain rfl : v = .ref a := r
  obtain ⟨its, rv, lst, _⟩ := I1.list ha
  refine wpAny_pyIter_list lst.isList (PpSet.newSet_ok (wpAny_newCompEnv ?_))
  rw [hpc, hcf]
  have hand : X.A.handled = none := I1.ok.hd hc
  obtain ⟨m0, _, look⟩ := I1.loc
  have vz : Vis X.env.scope z := Or.inr (Or.inl hcellz)
  have kz : X.env.kindOf z = some .cell := hcellz
  obtain ⟨c0, hc0⟩ : ∃ c0, X.env.cells.lookup z = some c0 := by
    obtain ⟨u, _, lk⟩ := look i z (.ref b) hN hi vz
    rcases lk with ⟨e, _⟩ | ⟨_, c, e, _⟩
    · rw [kz] at e; cases e
    · exact ⟨c, e⟩
  have D1 : (s1.heap.push { cls := .type "list_iterator", data := .fields #[.ref a, .int 0 0] }).objs.size = s1.heap.objs.size + 1 := Heap.size_push ..
  have it0 : (((s1.heap.push { cls := .type "list_iterator", data := .fields #[.ref a, .int 0 0] }).push { cls := .type "set", dict := none, data := .set #[] 0 (.fresh 0 0 (!X.w.params.followText "set-order")) }).push { cls := .type "dict", data := .dict #[] }).IsListIter s1.heap.objs.size a 0 :=
    ⟨_, Heap.get?_push_of_some _ (Heap.get?_push_of_some _ (Heap.get?_push_size s1.heap rfl)), rfl, rfl⟩
  have loop := xors_core (R := compEnds (model X.prog X.w) X.A X.xe none (fun v s' => EP X pins σ Q v s') (.ref (s1.heap.objs.size + 1)) (compEnvC scope (cloFrom X.env.cells scope.names []) (s1.heap.objs.size + 2) X.env)) (cenv := compEnvC scope (cloFrom X.env.cells scope.names []) (s1.heap.objs.size + 2) X.env) (x := x) (y := y) (z := z) (iter := iter) (scope := scope) (p1 := p1) (p2 := p2) (p3 := p3) (p4 := p4) (p5 := p5) (p6 := p6) (pos := pos) (N := s1.heap.objs.size) (D := s1.heap.objs.size + 1) (C := s1.heap.objs.size + 2) (t3 := s1.toks)
    hand ⟨ok.kind, hrx, hry, hrz, (hclo X.env.cells).trans (by rw [hc0]; rfl), hc0, rfl, hxy, dx, dy, dz⟩ hN vz kz hi I1 rv lst.isList hb few
    (fun b o e => Heap.get?_push_of_some _ (Heap.get?_push_of_some _ (Heap.get?_push_of_some _ e))) (Nat.le_refl _) (Nat.le_succ _) (Nat.le_add_right _ 2) (Nat.ne_of_lt (Nat.lt_succ_self _)) (Nat.ne_of_lt (Nat.lt_add_of_pos_right (by decide))) (Nat.ne_of_lt (Nat.lt_succ_self _)) it0 ?_ ?_ ?_
  · have main := codeAny_compStart_set loop (wpAny_pyIter_listiter it0 loop)
    simp only [Heap.size_push]
    exact main
  · have f := setR_fresh (h := s1.heap.push { cls := .type "list_iterator", data := .fields #[.ref a, .int 0 0] }) X.w
    rw [D1] at f
    exact f.at fun o e => Heap.get?_push_of_some _ e
  · have f := Heap.Ns.new ((s1.heap.push { cls := .type "list_iterator", data := .fields #[.ref a, .int 0 0] }).push { cls := .type "set", dict := none, data := .set #[] 0 (.fresh 0 0 (!X.w.params.followText "set-order")) }) (.type "dict")
    rw [Heap.size_push, D1] at f
    exact f
  · intro s' L m nd mem J ns
    have free : H1 (s1.heap.objs.size + 1) = none := I1.hok.fresh (Nat.le_succ _)
    refine ⟨m, ns, fun h' same => ⟨.ref (s1.heap.objs.size + 1), _, ?_, rfl, q _ L free nd mem⟩⟩
    refine J.turnedL (t' := s'.toks) (ch := [s1.heap.objs.size + 2]) (fun b o hb e => (same.2 b fun z => hb (List.mem_singleton.mpr z)).trans e) fun b hb => ?_
    rw [List.mem_singleton.mp hb]
    refine I1.fpOk (Nat.le_add_right _ 2) ?_
    rw [upd_ne (Nat.ne_of_gt (Nat.lt_succ_self _))]
    exact I1.hok.fresh (Nat.le_add_right _ 2)
end
end L3
end
section
namespace W7
open PySem PySem.Spec PyProof.Rows L2 L3 Evl ClX
open C8 (Cal pe_c Mak pe_mk Met pe_mt pe_mt0)
/-- isinstance(e, c), e the error in hand, with a dict of its own -/
def rIsEd (K : PySem.W.Frag) (a : Addr) (cls : Value) (d : Option Addr) : List V → Hp → VK → Prop := fun xs H Q => ∃ (C dd : Addr) (fs : List (Str × V)) (c : V) (cv : Value) (b : Bool), cls = .ref C ∧ d = some dd ∧ ExcC K C ∧ xs = [.ref a, c] ∧ H dd = some (.xd fs) ∧ (∀ u, RelV c u → u = cv) ∧ PySem.W.kitOne K (.ref C) cv = some b ∧ Q (.bl b) H
section
variable {X : Cx}
theorem call_isEd {a : Addr} {oe : Obj} {cls : Value} {d : Option Addr} {pn : List (Addr × Obj)} (hz : Zc cls d oe) (hf : ∃ vs, oe.data = .fields vs) : CallR (X.suite a ((a, oe) :: pn)) (.builtin "isinstance") (rIsEd X.K a cls d) := by
  intro pins s σ H xs us Q; intro I r h
  obtain ⟨C, dd, fs, c, cv, b, rfl, rfl, ec, rfl, hd, one, k, q⟩ := h
  obtain ⟨_, ns, _⟩ := I.hok _ _ hd
  obtain ⟨od, _, _, there, _⟩ := ns
  cases r with
  | cons rx rr =>
    cases rr with
    | cons rt rn =>
      cases rn
      cases rx
      have e := one _ rt
      subst e
      have pinned := (I.pin (a, oe) (List.mem_append.mpr (.inl List.mem_cons_self))).1
      have at_ : PySem.W.InstAt s.heap a oe C (some od) := by
        obtain ⟨vs, hv⟩ := hf
        obtain ⟨h1, h2⟩ := hz
        refine ⟨pinned, h1, ?_, ?_⟩
        · unfold PySem.W.notCls
          rw [hv]
        · rw [h2]; exact there
      have isC : (PySem.W.clsIn X.K C).isSome = true := by
        have := ec.hd
        unfold PySem.W.hasDictIn at this
        cases e2 : PySem.W.clsIn X.K C with
        | none => simp [e2] at this
        | some cd => rfl
      exact PySem.W.kia_one (PySem.W.kitx_exc isC ec.hg ec.hk ec.hs ec.ha ec.hn ec.ht ec.hm) I.kIn at_ k (fun z => nomatch z) fun tk => ⟨.bl b, H, I.kept (t' := tk) fun _ _ z => z, rfl, q⟩
end
/-- a classmethod -/
structure CMt (P : Program) (w : World) (K : PySem.W.Frag) (mg : Str → Option Value) (base : Heap) (k : Nat) (C : Addr) (m : Str) (sp : Sp) : Prop where
  ex : ∃ (p g : Addr) (mc : Value) (fd : FuncData) (ps : List Str), CRead K C mc ∧ CMet K C mc m p g ∧ FnOk P w K mg base CX0 k g fd ps sp ∧ Binds K fd ps []
section
variable {X : Cx} {k j : Nat} {C : Addr} {m : Str} {sp : Sp} {o e : Expr} {es : List Expr} {pos apos : Pos} {ta : TE} {t : TA} {pl : Sem Bool}
theorem pe_cmt (c : CMt X.prog X.w X.K X.mg X.base k C m sp) (hr : Room j X.A) (hk : k ≤ j) (he : PE X o ta) (ha : PA X (e :: es) t) (hst : starEach (e :: es) X.env = (false, eval e X.env) :: starEach es X.env := by rfl) (hpl : (backTo pos (starEach es X.env)).any (·.1) = false := by rfl)
    (ht : eval (.Call (.Attribute o m apos) (e :: es) [] pos) X.env = (do
      let ov ← eval o X.env
      standAt apos.atName
      let (f, first) ← holding [ov] (getMethod ov m pl)
      callWith pos f first (backTo pos (starEach (e :: es) X.env)) (backToKw pos (keywordEach [] X.env))) := by rfl) : PE X (.Call (.Attribute o m apos) (e :: es) [] pos) (tCMeth C sp C8.E0 ta t) := by
  obtain ⟨p, g, mc, fd, ps, r, cm, F, b⟩ := c.ex
  have raw := F.raw (ds := []) (dvs := []) b .nil
  simp only [List.append_nil] at raw
  exact pe_cmeth he r cm raw (hr.mono hk) C8.pass0 ha hst hpl ht
end
end W7
end
section
namespace W7
open PySem PySem.Spec PyProof.Rows L2 L3 Evl
open C8 (Cal pe_c Mak pe_mk Met pe_mt pe_mt0)
section
variable {K : PySem.W.Frag} {σ : L2.St} {H : Hp} {ta : TE}
theorem ev_isTup {b : Addr} {xs : List V} (ha : Ev ta σ H (.ref b)) (h : H b = some (.tup xs)) : Ev (tCB (rIsi K) (tCons ta (tCons (tC (.ty "tuple")) tNil))) σ H (.bl true) := fun H1 e Q q =>
  ha H1 e _ fun H2 e2 => ⟨_, _, _, _, true, rfl, .ty _, .base (.tup (e2 _ _ (e _ _ h))), rfl, q H2 e2⟩
end
section
variable {P : Program} {w : World} {K : PySem.W.Frag} {mg : Str → Option Value} {base : Heap} {f : Addr} {fd : FuncData}
theorem sc_law_int : FnScope ["_law_value"] ["_law_value"] (defScope (top 50)) := ⟨rfl, rfl, rfl, by decide +kernel, rfl, by decide +kernel, by decide +kernel⟩
theorem c_law_int (F : FnP K "_law_int" (top 50) f fd) (g : mg "_law_int" = some (.ref f)) (B : Bi mg) : Cal P w K mg base 1 "_law_int" spIsInt [] := by
  refine mkCal F g sc_law_int (fun _ _ _ _ _ _ us hl => match us, hl with | [_], _ => rfl) (fun vs H Q E h => ?_) (fun cdv A outer s H vs Q E hr h => ?_)
  · obtain ⟨i, rfl, _⟩ := h
    rfl
  · obtain ⟨i, rfl, q⟩ := h
    refine ⟨_, (pss_one (ps_ret (pe_and (pe_callB call_isi (by rfl) B.isinstance (by decide +kernel) (pa_cons (pv 0) (pa_cons (pe_bltn (v := .ty "int") (by rfl) B.int (by decide +kernel) rfl) pa_nil))) (pe_one (pe_not (pe_callB call_isi (by rfl) B.isinstance (by decide +kernel) (pa_cons (pv 0) (pa_cons (pe_bltn (v := .ty "bool") (by rfl) B.bool (by decide +kernel) rfl) pa_nil)))))))), ?_⟩
    exact s_ret (ev_andV (a := true) (b := !false) (ev_cb (ea_cons (ev_v 0) (ea_cons ev_c ea_nil)) (fun H1 e Q q => ⟨_, _, _, _, true, rfl, .ty _, .base (.int _), rfl, q H1 (Ex.refl _)⟩))
      (fun _ => ev_notV (ev_cb (ea_cons (ev_v 0) (ea_cons ev_c ea_nil)) (fun H1 e Q q => ⟨_, _, _, _, false, rfl, .ty _, .base (.int _), rfl, q H1 (Ex.refl _)⟩)))) q
def spLawIsLot : Sp := fun vs H Q _ => ∃ (p : Addr) (ns : List Nat) (size : Nat), vs = [.ref p, .int size] ∧ H p = some (.tup (nv ns)) ∧ ns.Pairwise (· < ·) ∧ (∀ n ∈ ns, n < size) ∧ RetV (.bl true) H Q
def spLawDepths (K : PySem.W.Frag) : Sp := fun vs H Q _ => ∃ (size : Nat) (p : Addr) (ms : List Nat), vs = [.int size, .ref p] ∧ size ≤ 5 ∧ SqL K H p (nv ms) ∧ ms.length ≤ 64 ∧ ms ≠ [] ∧ RetL (nv (depF size ms)) H Q
theorem sc_law_depths : FnScope ["_law_size", "_law_masks", "_law_lot_here", "_law_number_here"] ["_law_size", "_law_masks"] (defScope (top 65)) := ⟨rfl, rfl, rfl, by decide +kernel, rfl, by decide +kernel, by decide +kernel⟩
theorem c_law_depths (F : FnP K "_law_depths" (top 65) f fd) (g : mg "_law_depths" = some (.ref f)) (B : Bi mg) (c_law_bits : Cal P w K mg base 1 "_law_bits" spBits []) : Cal P w K mg base 2 "_law_depths" (spLawDepths K) [] := by
  refine mkCal F g sc_law_depths (fun _ _ _ _ _ _ us hl => match us, hl with | [_, _], _ => rfl) (fun vs H Q E h => ?_) (fun cdv A outer s H vs Q E hr h => ?_)
  · obtain ⟨size, p, ms, rfl, _⟩ := h
    rfl
  · obtain ⟨size, p, ms, rfl, hz, hp, hl, hne, q⟩ := h
    have h64 := pow64 (n := size) (by omega)
    refine ⟨_, (pss_one (ps_ret (pe_lc (own := [("_law_number_here", 3)]) (g := gName 3) (by rfl) sc_law_depths.nd (pi_range1 rfl B.range (pa_cons (pe_op on_shl (pe_nat 1 pe_int) (pv 0)) pa_nil)) (blkOk_by (own := [("_law_number_here", 3)]) (N := ["_law_size", "_law_masks", "_law_lot_here", "_law_number_here"]) (sc := defScope (top 65)) (by decide +kernel)) (fun _ _ _ _ _ => (pg_name (i := 3) sc_law_depths.nd rfl (by first | exact Or.inl rfl | exact Or.inr rfl))) (fun _ _ _ _ _ => pts_nil) (fun _ _ _ _ _ => (pe_callB (cr_minK (K := K) rfl rfl) (by rfl) B.min (by decide +kernel) (pa_cons (pe_lc (own := [("_law_lot_here", 2)]) (g := gName 2) (by rfl) sc_law_depths.nd (pi_listK (K := K) rfl (pv 1)) (by exact blkOk_by (by kernel_rfl)) (fun _ _ _ _ _ => (pg_name (i := 2) sc_law_depths.nd rfl (by first | exact Or.inl rfl | exact Or.inr rfl))) (fun _ _ _ _ _ => pts_nil) (fun _ _ _ _ _ => (pe_c c_law_bits hr (by decide) rfl (pa_cons (pe_op on_xor (pv 3) (pv 2)) pa_nil)))) pa_nil)))))), ?_⟩
    refine s_retL (xs := nv (depF size ms)) ?_ fun r H3 hr3 e3 h3 => q r H3 hr3 e3 h3
    have := el_rng (ta := tCons (tOp (rN (fun a b => a < 64 ∧ b < 64) fun a b => .int ((a <<< b : Nat) : Int)) (tC (.int ((1 : Nat) : Int))) (tVar 0)) tNil) (j := 3) (vs := [3]) (t := tYes) (te := tCB (rMin K) (tCons (tLc (iList K (tVar 1)) (gName 2) tYes (tCall spBits [] C8.E0 (tCons (tOp (rN0 fun a b => .int ((a ^^^ b : Nat) : Int)) (tVar 3) (tVar 2)) tNil)) [2]) tNil)) (σ := [some (.int (size : Nat)), some (.ref p), none, none]) (H := H) (n := 1 <<< size) (fun _ => true) (fun n => V.int (rkF ms n : Nat)) (ea_cons (ev_nc ev_c (ev_v 0) ⟨by decide, by omega⟩) ea_nil) (by omega) (fun _ => rfl) (fun _ _ _ _ => et_yes) (fun n H1 e1 hn _ => by
      have hne2 : ms.map (fun m => bits (m ^^^ n)) ≠ [] := by simpa using hne
      refine ev_minN (ns := ms.map fun m => bits (m ^^^ n)) ?_ (mn_ok hne2).1 (mn_ok hne2).2
      rw [nv_map]
      have h1 := el_nats (K := K) (tl := tVar 1) (te := tCall spBits [] C8.E0 (tCons (tOp (rN0 fun a b => .int ((a ^^^ b : Nat) : Int)) (tVar 3) (tVar 2)) tNil)) (t := tYes) (j := 2) (vs := [2]) (a := p) (ns := ms) (σ := [some (.int (size : Nat)), some (.ref p), none, some (.int (n : Nat))]) (H := H1) (fun _ => true) (fun m => .int (bits (m ^^^ n) : Nat)) (ev_v 1) (ex_l e1 hp) (by omega) (fun _ => rfl) (fun _ _ _ _ => et_yes) (fun m H2 e2 hm _ => ev_call (ea_cons (ev_n (ev_v 3) (ev_v 2)) ea_nil) fun H3 e3 Q3 q3 E3 => ⟨n ^^^ m, rfl, by rw [Nat.xor_comm m n] at q3; exact q3⟩)
      exact h1)
    rw [List.filter_eq_self.mpr (fun _ _ => rfl)] at this
    have e : nv (depF size ms) = (List.range (1 <<< size)).map fun n => V.int (rkF ms n : Nat) := by unfold nv depF; rw [List.map_map]; rfl
    rw [e]
    exact this
end
end W7
end
section
namespace W7
open PySem PySem.Spec PyProof.Rows L2 L3 Evl ClX
open C8 (Cal pe_c Mak pe_mk Met pe_mt pe_mt0)
section
variable {K : PySem.W.Frag} {σ : L2.St} {H : Hp} {tl te : TE} {tt : TT}
/-- [lot for i, n in enumerate(ns) if test] -/
theorem el_enumLots {a : Addr} {ns : List Nat} {j1 j2 : Nat} {vs : List Nat} (F : Nat → Nat → Bool) (T : Nat → List Nat) (h : Ev tl σ H (.ref a)) (hx : SqL K H a (nv ns)) (hz : ns.length ≤ 40000)
    (hw : ∀ x y, wipe (((wipe σ vs).set j1 (some x)).set j2 (some y)) vs = wipe σ vs)
    (ht : ∀ (i n : Nat) H1, Ex H H1 → ns[i]? = some n → EvT tt (((wipe σ vs).set j1 (some (.int (i : Nat)))).set j2 (some (.int (n : Nat)))) H1 (F i n))
    (he : ∀ (i n : Nat) H1, Ex H H1 → ns[i]? = some n → F i n = true → EvTup te (((wipe σ vs).set j1 (some (.int (i : Nat)))).set j2 (some (.int (n : Nat)))) H1 (T i)) :
    EvLots (tLc (iEnumA K (tCons tl tNil)) (gTup K 2 (gCons (gName j1) (gCons (gName j2) gNil))) tt te vs) σ H (((List.range ns.length).filter fun i => F i (ns.getD i 0)).map T) := fun H0 e Q q => h H0 e _ fun H1 e1 => ⟨a, nv ns, rfl, .inl ⟨ex_l (e.trans e1) hx, fun Dl hD =>
  lc_enumL (xs := nv ns) (fun i H' => H1 Dl = none ∧ Ex H1 H' ∧ ∃ us, H' Dl = some (.lst us) ∧ Lots H' us (((List.range i).filter fun i => F i (ns.getD i 0)).map T)) ⟨hD, Ex.new hD, [], upd_same, nil_lots⟩ (fun i H' _ p => ex_l ((e.trans e1).trans p.2.1) hx) (fun i x H' Tp hi ⟨p1, p2, us, p3, p4⟩ hT => by
    obtain ⟨n, hn, rfl⟩ := nv_get hi
    have il := (List.getElem?_eq_some_iff.mp hn).1
    have same : ns.getD i 0 = n := by simp [List.getD, hn]
    have eT := Ex.new (o := .tup [.int (i : Nat), .int (n : Nat)]) hT
    have few : us.length ≤ i := by
      rw [p4.1, List.length_map]
      refine Nat.le_trans (List.length_filter_le _ _) ?_
      rw [List.length_range]; exact Nat.le_refl _
    refine ⟨Tp, [.int (i : Nat), .int (n : Nat)], rfl, st_of upd_same, rfl, _, _, rfl, _, _, rfl, rfl, hw _ _, ?_⟩
    refine ht i n H' (e.trans (e1.trans p2)) hn _ eT _ fun H3 e3 => ?_
    have ee := p2.trans (eT.trans e3)
    have now := e3 _ _ (eT _ _ p3)
    cases hf : F i n with
    | true =>
      show te _ H3 _
      refine he i n H' (e.trans (e1.trans p2)) hn hf H3 (eT.trans e3) _ fun y H4 e4 hy => ⟨us, e4 _ _ now, sz_lt (by omega), p1, Ex.mut (ee.trans e4) p1, us ++ [y], upd_same, ?_⟩
      have d4 := e4 _ _ now
      have keep : ∀ {r : V} {ms : List Nat}, TupV H4 r ms → TupV (upd H4 Dl (.lst (us ++ [y]))) r ms := fun {r ms} h => by
        obtain ⟨t, rfl, ht⟩ := h
        exact ⟨t, rfl, by rw [upd_ne (fun e5 => by rw [e5, d4] at ht; cases ht)]; exact ht⟩
      have p5 : Lots H4 us (((List.range i).filter fun i => F i (ns.getD i 0)).map T) := p4.ex (eT.trans (e3.trans e4))
      have p6 : Lots (upd H4 Dl (.lst (us ++ [y]))) us (((List.range i).filter fun i => F i (ns.getD i 0)).map T) := ⟨p5.1, fun k r ms a1 a2 => keep (p5.2 k r ms a1 a2)⟩
      rw [List.range_succ, List.filter_append, List.map_append, List.filter_cons, same, if_pos hf]
      exact p6.push (keep hy)
    | false =>
      show _ ∧ _ ∧ _
      refine ⟨p1, ee, us, now, ?_⟩
      rw [List.range_succ, List.filter_append, List.map_append, List.filter_cons, same, if_neg (by rw [hf]; decide)]
      simpa using p4.ex (eT.trans e3)) (fun H' ⟨p1, p2, us, p3, p4⟩ => q Dl us H' (fresh_back e1 p1) (e1.trans p2) p3 (by rw [nv_len] at p4; exact p4))⟩⟩
end
section
variable {P : Program} {w : World} {K : PySem.W.Frag} {mg : Str → Option Value} {base : Heap} {f : Addr} {fd : FuncData} {CF CN : Addr}
/-- what is no number -/
def BadV (H : Hp) (v : V) : Prop := v = .non ∨ (∃ b, v = .bl b) ∨ (∃ s, v = .str s) ∨ ∃ t xs, v = .ref t ∧ H t = some (.tup xs)
theorem BadV.ex {H H' : Hp} {v : V} (h : BadV H v) (e : Ex H H') : BadV H' v := h.imp id fun h => h.imp id fun h => h.imp id fun ⟨t, xs, a, b⟩ => ⟨t, xs, a, e _ _ b⟩
def spIsIntA : Sp := fun vs H Q _ => ∃ v, vs = [v] ∧ (((∃ i, v = .int i) ∧ RetV (.bl true) H Q) ∨ (BadV H v ∧ RetV (.bl false) H Q))
theorem c_is_intA (F : FnP K "is_int" (top 9) f fd) (g : mg "is_int" = some (.ref f)) (B : Bi mg) : Cal P w K mg base 1 "is_int" spIsIntA [] := by
  refine mkCal F g sc_is_int (fun _ _ _ _ _ _ us hl => match us, hl with | [_], _ => rfl) (fun vs H Q E h => ?_) (fun cdv A outer s H vs Q E hr h => ?_)
  · obtain ⟨i, rfl, _⟩ := h
    rfl
  · obtain ⟨v, rfl, h⟩ := h
    refine ⟨_, (pss_one (ps_ret (pe_and (pe_callB call_isi (by rfl) B.isinstance (by decide +kernel) (pa_cons (pv 0) (pa_cons (pe_bltn (v := .ty "int") (by rfl) B.int (by decide +kernel) rfl) pa_nil))) (pe_one (pe_not (pe_callB call_isi (by rfl) B.isinstance (by decide +kernel) (pa_cons (pv 0) (pa_cons (pe_bltn (v := .ty "bool") (by rfl) B.bool (by decide +kernel) rfl) pa_nil)))))))), ?_⟩
    have one : ∀ {t : Value} {b : Bool} {c : Str} {cn : String} (ty : ∀ H1, Ex H H1 → TyX K H1 v t) (hk : PySem.W.kitOne K t (.type cn) = some b), Ev (tCB (rIsi K) (tCons (tVar 0) (tCons (tC (.ty cn)) tNil))) (start ["value"] [v]) H (.bl b) := fun {t b c cn} ty hk => ev_cb (ea_cons (ev_v 0) (ea_cons ev_c ea_nil)) fun H1 e Q q => ⟨v, _, t, _, b, rfl, .ty _, ty H1 e, hk, q H1 (Ex.refl _)⟩
    rcases h with ⟨⟨i, rfl⟩, q⟩ | ⟨bad, q⟩
    · exact s_ret (ev_andV (a := true) (b := !false) (one (c := Str.empty) (fun H1 _ => .base (.int _)) rfl) fun _ => ev_notV (one (c := Str.empty) (fun H1 _ => .base (.int _)) rfl)) q
    · rcases bad with rfl | ⟨b, rfl⟩ | ⟨s, rfl⟩ | ⟨t, xs, rfl, ht⟩
      · exact s_ret (ev_andV (a := false) (b := true) (one (c := Str.empty) (fun H1 _ => .base .non) rfl) fun h => by cases h) q
      · exact s_ret (ev_andV (a := true) (b := !true) (one (c := Str.empty) (fun H1 _ => .base (.bl _)) rfl) fun _ => ev_notV (one (c := Str.empty) (fun H1 _ => .base (.bl _)) rfl)) q
      · exact s_ret (ev_andV (a := false) (b := true) (one (c := Str.empty) (fun H1 _ => .base (.str _)) rfl) fun h => by cases h) q
      · exact s_ret (ev_andV (a := false) (b := true) (one (c := Str.empty) (fun H1 e => .base (.tup (e _ _ ht))) rfl) fun h => by cases h) q
/-- f(..), as a statement, f a def that may raise -/
theorem q_chk {σ : L2.St} {H : Hp} {ta : TA} {vs : List V} {sp : Sp} {E : L2.St → XK} {D : Ends} {tz : TS} (h : EvA ta σ H vs) (k : ∀ H1, Ex H H1 → sp vs H1 (fun _ H' => tz D σ H') (E σ)) : tSeq (tDrop (tCallS sp E ta)) tz D σ H := h H (Ex.refl _) _ k
/-- BadNumber(nm) comes out -/
def Out (CN : Addr) (nm : Str) (H : Hp) (E : XK) : Prop := ∀ d H', Ex H H' → H' d = some (errD "name" (.str nm)) → E (.ref CN) (some d) H'
def spChkNum (CN : Addr) : Sp := fun vs H Q E => ∃ (v : V) (nm : Str) (least : Int), vs = [v, .str nm, .int least] ∧ ((∃ i, v = .int i ∧ least ≤ i ∧ RetV v H Q) ∨ ((BadV H v ∨ ∃ i, v = .int i ∧ i < least) ∧ Out CN nm H E))
theorem sc_check_number : FnScope ["number", "name", "least"] ["number", "name", "least"] (defScope (top 14)) := ⟨rfl, rfl, rfl, by decide +kernel, rfl, by decide +kernel, by decide +kernel⟩
theorem e_check_number (x_BadNumber : Xc.ErrC K mg "BadNumber" "name" CN) (F : FnP K "check_number" (top 14) f fd) (g : mg "check_number" = some (.ref f)) (B : Bi mg) (c_is_int : Cal P w K mg base 1 "is_int" spIsIntA []) : CalE P w K mg base 3 "check_number" (spChkNum CN) := by
  refine mkCalE F g sc_check_number (fun _ _ _ _ _ _ us hl => match us, hl with | [_, _, _], _ => rfl) (fun vs H Q E h => ?_) (fun cdv A outer s H vs Q E hr h => ?_)
  · obtain ⟨v, nm, l, rfl, _⟩ := h
    rfl
  · obtain ⟨v, nm, least, rfl, h⟩ := h
    refine ⟨_, (pss_cons (ps_if (PW.pt (pw_or (pt_not (pt_val (pe_c c_is_int hr (by decide) rfl (pa_cons (pv 0) pa_nil)))) (pw_or1 (pt_cmpR op_lt (pv 0) (pv 2) (nomark _))))) (pss_one (ps_raiseE x_BadNumber hr rfl (takes_of rfl rfl rfl rfl) (pa_cons (pv 1) pa_nil) rfl)) pss_nil) (pss_one (ps_ret (pv 0)))), ?_⟩
    have lt : ∀ i : Int, v = .int i → Ev (tOp (rI0 fun i j => .bl (decide (i < j))) (tVar 0) (tVar 2)) (start ["number", "name", "least"] [v, .str nm, .int least]) H (.bl (decide (i < least))) := fun i e => ev_op (ev_v 0) (ev_v 2) fun H1 _ _ q => ⟨i, least, e, rfl, q H1 (Ex.refl H1)⟩
    have raise : ∀ H1, Ex H H1 → Out CN nm H E → tErr CN "name" (tCons (tVar 1) tNil) (start ["number", "name", "least"] [v, .str nm, .int least]) H1 (fun cls d H' => E cls d H') := fun H1 e1 k => ea_cons (ev_v 1) ea_nil H1 (Ex.refl _) _ fun H2 e2 => ⟨_, rfl, fun d hd => k d _ (e1.trans (e2.trans (Ex.new hd))) upd_same⟩
    rcases h with ⟨i, rfl, hi, q⟩ | ⟨bad | ⟨i, rfl, hi⟩, k⟩
    · refine q_when (b := !true || decide (i < least)) (et_or (et_not (et_B (ev_call (ea_cons (ev_v 0) ea_nil) fun H2 e2 Q2 q2 E2 => ⟨_, rfl, .inl ⟨⟨i, rfl⟩, q2⟩⟩))) fun _ => et_test (lt i rfl)) (fun hb => absurd hb (by simp; omega)) (fun _ H1 e1 => ?_)
      exact s_ret (ev_v 0) fun H2 e2 => q H2 (e1.trans e2)
    · refine q_when (b := !false || true) (et_or (et_not (et_B (ev_call (ea_cons (ev_v 0) ea_nil) fun H2 e2 Q2 q2 E2 => ⟨_, rfl, .inr ⟨bad.ex e2, q2⟩⟩))) fun h => by cases h) (fun _ H1 e1 => raise H1 e1 k) (fun hb => by cases hb)
    · refine q_when (b := !true || decide (i < least)) (et_or (et_not (et_B (ev_call (ea_cons (ev_v 0) ea_nil) fun H2 e2 Q2 q2 E2 => ⟨_, rfl, .inl ⟨⟨i, rfl⟩, q2⟩⟩))) fun _ => et_test (lt i rfl)) (fun _ H1 e1 => raise H1 e1 k) (fun hb => absurd hb (by simp; omega))
def spAnyNum : Sp := fun vs H Q _ => ∃ (i : Int) (nm : Str), vs = [.int i, .str nm] ∧ RetV (.int i) H Q
theorem sc_check_any_number : FnScope ["number", "name"] ["number", "name"] (defScope (top 15)) := ⟨rfl, rfl, rfl, by decide +kernel, rfl, by decide +kernel, by decide +kernel⟩
theorem c_check_any_number (F : FnP K "check_any_number" (top 15) f fd) (g : mg "check_any_number" = some (.ref f)) (B : Bi mg) (c_is_int : Cal P w K mg base 1 "is_int" spIsInt []) : Cal P w K mg base 2 "check_any_number" spAnyNum [] := by
  refine mkCal F g sc_check_any_number (fun _ _ _ _ _ _ us hl => match us, hl with | [_, _], _ => rfl) (fun vs H Q E h => ?_) (fun cdv A outer s H vs Q E hr h => ?_)
  · obtain ⟨i, nm, rfl, _⟩ := h
    rfl
  · obtain ⟨i, nm, rfl, q⟩ := h
    refine ⟨_, (pss_cons (ps_if (pt_not (pt_val (pe_c c_is_int hr (by decide) rfl (pa_cons (pv 0) pa_nil)))) (pss_one ps_never) pss_nil) (pss_one (ps_ret (pv 0)))), ?_⟩
    refine q_when (b := !true) (et_not (et_B (ev_call (ea_cons (ev_v 0) ea_nil) fun H2 e2 Q2 q2 E2 => ⟨_, rfl, q2⟩))) (fun hb => by cases hb) (fun _ H1 e1 => ?_)
    exact s_ret (ev_v 0) fun H2 e2 => q H2 (e1.trans e2)
/-- the greatest depth -/
def mostF (size : Nat) (fm : List Nat) : Nat := (depF size fm).foldr max 0
theorem most_of (l : List Nat) : l ≠ [] → l.foldr max 0 ∈ l ∧ ∀ y ∈ l, y ≤ l.foldr max 0 := by
  induction l with
  | nil => intro h; exact absurd rfl h
  | cons a l ih =>
    intro _
    cases l with
    | nil => simp
    | cons b l =>
      obtain ⟨h1, h2⟩ := ih (by simp)
      rw [List.foldr_cons]
      refine ⟨?_, fun y hy => ?_⟩
      · rcases Nat.le_total a ((b :: l).foldr max 0) with h | h
        · rw [Nat.max_eq_right h]; exact List.mem_cons_of_mem _ h1
        · rw [Nat.max_eq_left h]; exact List.mem_cons_self
      · rcases (List.mem_cons.mp hy) with rfl | hy
        · exact Nat.le_max_left _ _
        · exact Nat.le_trans (h2 y hy) (Nat.le_max_right _ _)
theorem Out.ex {CN : Addr} {nm : Str} {H H' : Hp} {E : XK} (h : Out CN nm H E) (e : Ex H H') : Out CN nm H' E := fun d H2 e2 x => h d H2 (e.trans e2) x
theorem dep_ne {size : Nat} {fm : List Nat} : depF size fm ≠ [] := fun h => by
  have := congrArg (List.length) h
  unfold depF at this
  rw [List.length_map, List.length_range, Nat.one_shiftLeft] at this
  have := Nat.two_pow_pos size
  simp at *
def spDeepest (CF : Addr) : Sp := fun vs H Q _ => ∃ (a : Addr) (size : Nat) (fm : List Nat), vs = [.ref a] ∧ FamAt H CF a size fm ∧ FamOk size fm ∧ RetV (.int (mostF size fm : Nat)) H Q
theorem sc_deepest : FnScope ["family"] ["family"] (defScope (top 42)) := ⟨rfl, rfl, rfl, by decide +kernel, rfl, by decide +kernel, by decide +kernel⟩
theorem c_deepest (F : FnP K "deepest" (top 42) f fd) (g : mg "deepest" = some (.ref f)) (B : Bi mg) (c_depth_row : Cal P w K mg base 4 "depth_row" (spFm K CF fun size fm => nv (depF size fm)) []) : Cal P w K mg base 5 "deepest" (spDeepest CF) [] := by
  refine mkCal F g sc_deepest (fun _ _ _ _ _ _ us hl => match us, hl with | [_], _ => rfl) (fun vs H Q E h => ?_) (fun cdv A outer s H vs Q E hr h => ?_)
  · obtain ⟨a, size, fm, rfl, _⟩ := h
    rfl
  · obtain ⟨a, size, fm, rfl, hf, ok, q⟩ := h
    refine ⟨_, (pss_one (ps_ret (pe_callB (cr_max rfl) (by rfl) B.max (by decide +kernel) (pa_cons (pe_c c_depth_row hr (by decide) rfl (pa_cons (pv 0) pa_nil)) pa_nil)))), ?_⟩
    obtain ⟨m1, m2⟩ := most_of _ (dep_ne (size := size) (fm := fm))
    exact s_ret (ev_maxN (el_call (ea_cons (ev_v 0) ea_nil) fun H2 e2 Q2 q2 E2 => ⟨a, size, fm, rfl, hf.ex e2, ok, q2⟩) m1 m2) q
/-- the lots within k -/
def inK (fm : List Nat) (size k m : Nat) : Prop := m < 1 <<< size ∧ rkF fm m ≤ k
def spWithin (CF CN : Addr) : Sp := fun vs H Q E => ∃ (a : Addr) (v : V), vs = [.ref a, v] ∧ ((∃ (size k : Nat) (fm : List Nat), v = .int (k : Nat) ∧ FamAt H CF a size fm ∧ FamOk size fm ∧ RetFam CF size (inK fm size k) H Q) ∨ ((BadV H v ∨ ∃ i, v = .int i ∧ i < 0) ∧ Out CN "number" H E))
theorem sc_within : FnScope ["family", "number", "depths", "mask", "depth"] ["family", "number"] (defScope (top 32)) := ⟨rfl, rfl, rfl, by decide +kernel, rfl, by decide +kernel, by decide +kernel⟩
theorem e_within (C : FC K CF) (F : FnP K "within" (top 32) f fd) (g : mg "within" = some (.ref f)) (B : Bi mg) (c_check_number : CalE P w K mg base 3 "check_number" (spChkNum CN)) (c_depth_row : Cal P w K mg base 4 "depth_row" (spFm K CF fun size fm => nv (depF size fm)) []) (c_lot_from : Cal P w K mg base 1 "lot_from" spLotFrom []) (m_FamilyA : Mak P w K mg base 5 "Family" CF (spFamA CF) []) : CalE P w K mg base 7 "within" (spWithin CF CN) := by
  have m_Family := m_FamilyA
  refine mkCalE F g sc_within (fun _ _ _ _ _ _ us hl => match us, hl with | [_, _], _ => rfl) (fun vs H Q E h => ?_) (fun cdv A outer s H vs Q E hr h => ?_)
  · obtain ⟨a, v, rfl, _⟩ := h
    rfl
  · obtain ⟨a, v, rfl, h⟩ := h
    refine ⟨_, (pss_cons (ps_expr (pe_cE c_check_number hr (by decide) rfl (takes_of rfl rfl rfl rfl) (pa_cons (pv 1) (pa_cons pe_str (pa_cons (pe_nat 0 pe_int) pa_nil))))) (pss_cons (ps_set (i := 2) sc_within.nd rfl (by first | exact Or.inl rfl | exact Or.inr rfl) (pe_c c_depth_row hr (by decide) rfl (pa_cons (pv 0) pa_nil))) (pss_one (ps_ret (pe_mk m_Family hr (by decide) rfl (pa_cons (pe_fld (pv 0) rfl) (pa_cons (pe_lc (own := [("mask", 3), ("depth", 4)]) (g := gTup K 2 (gCons (gName 3) (gCons (gName 4) gNil))) (by rfl) sc_within.nd (pi_enumA (by rfl) B.enumerate (pa_cons (pv 2) pa_nil)) (blkOk_by (own := [("mask", 3), ("depth", 4)]) (N := ["family", "number", "depths", "mask", "depth"]) (sc := defScope (top 32)) (by decide +kernel)) (fun _ _ _ _ _ => (pg_tup rfl (pgs_cons (pg_name (i := 3) sc_within.nd rfl (by first | exact Or.inl rfl | exact Or.inr rfl)) (pgs_cons (pg_name (i := 4) sc_within.nd rfl (by first | exact Or.inl rfl | exact Or.inr rfl)) pgs_nil)))) (fun _ _ _ _ _ => (pts_one (pt_cmpR on_le (pv 4) (pv 1) (nomark _)))) (fun _ _ _ _ _ => (pe_c c_lot_from hr (by decide) rfl (pa_cons (pv 3) pa_nil)))) pa_nil))))))), ?_⟩
    rcases h with ⟨size, k, fm, rfl, hf, ok, q⟩ | ⟨bad, out⟩
    · refine q_chk (ea_cons (ev_v 1) (ea_cons ev_c (ea_cons ev_c ea_nil))) fun H1 e1 => ⟨_, _, _, rfl, .inl ⟨_, rfl, by omega, fun H2 e2 => ?_⟩⟩
      have e12 := e1.trans e2
      have h5 := ok.s5
      have h64 := pow64 (n := size) (by omega)
      have dl : (depF size fm).length = 1 <<< size := by unfold depF; rw [List.length_map, List.length_range]
      refine q_asgL (el_call (ea_cons (ev_v 0) ea_nil) fun H3 e3 Q3 q3 E3 => ⟨a, size, fm, rfl, (hf.ex e12).ex e3, ok, q3⟩) fun p H3 hp e3 h3 => ?_
      have e13 := e12.trans e3
      refine mk_famA (ev_size (hf.ex e13) C (ev_v 0)) ok.s1 ok.s5 ?_ (fun m hm => hm.1) (fun H4 e4 Q4 q4 => ?_) (q.ex e13)
      · obtain ⟨m, hm⟩ := List.exists_mem_of_ne_nil _ ok.ne
        refine ⟨m, ok.lt m hm, ?_⟩
        have := rk_le (t := m) hm
        rw [Nat.xor_self] at this
        have z : bits 0 = 0 := by decide
        omega
      · have el := el_enumLots (K := K) (te := tCall spLotFrom [] C8.E0 (tCons (tVar 3) tNil)) (tl := tVar 2) (tt := tTest (tOp (rN0 fun a b => .bl (decide (a ≤ b))) (tVar 4) (tVar 1))) (j1 := 3) (j2 := 4) (vs := [3, 4]) (a := p) (ns := depF size fm) (σ := [some (.ref a), some (.int (k : Nat)), some (.ref p), none, none]) (H := H4) (fun i n => decide (n ≤ k)) lotF (ev_v 2) (sq_of (e4 _ _ h3)) (by rw [dl]; omega) (fun _ _ => rfl) (fun i n H5 e5 hn => et_test (ev_n (ev_v 4) (ev_v 1))) (fun i n H5 e5 hn _ => etup_U (eu_call (ea_cons (ev_v 3) ea_nil) fun H6 e6 Q6 q6 E6 => ⟨i, rfl, ?_, q6⟩))
        · refine el H4 (Ex.refl _) _ fun r rs H5 hr e5 h5' L5 => q4 r rs _ H5 e5 (.inl h5') (Lots.toP L5) (List.nodup_range.filter _) fun m => ?_
          rw [List.mem_filter, List.mem_range, dl]
          unfold inK
          refine and_congr_right fun hm => ?_
          unfold depF
          rw [rng_get hm, decide_eq_true_eq]
        · have := (List.getElem?_eq_some_iff.mp hn).1
          rw [dl] at this; omega
    · exact q_chk (ea_cons (ev_v 1) (ea_cons ev_c (ea_cons ev_c ea_nil))) fun H1 e1 => ⟨_, _, _, rfl, .inr ⟨bad.imp (fun b => b.ex e1) id, out.ex e1⟩⟩
end
end W7
end
section
namespace W7
open PySem PySem.Spec PyProof.Rows L2 L3 Evl ClX
open C8 (Cal pe_c Mak pe_mk Met pe_mt pe_mt0)
/-- ints that are naturals -/
theorem nat_list : ∀ {L : List Int}, (∀ k ∈ L, 0 ≤ k) → ∃ M : List Nat, L = M.map fun n => ((n : Nat) : Int) := by
  intro L
  induction L with
  | nil => exact fun _ => ⟨[], rfl⟩
  | cons a L ih =>
    intro h
    obtain ⟨M, e⟩ := ih fun k hk => h k (List.mem_cons_of_mem _ hk)
    have := h a List.mem_cons_self
    exact ⟨a.toNat :: M, by rw [e, List.map_cons, Int.toNat_of_nonneg this]⟩
theorem cast_nd {M : List Nat} (h : (M.map fun n => ((n : Nat) : Int)).Nodup) : M.Nodup := by
  rw [List.nodup_iff_pairwise_ne, List.pairwise_map] at h
  exact h.imp fun h e => h (by rw [e])
section
variable {K : PySem.W.Frag} {w : World} {σ : L2.St} {H : Hp} {tl : TE} {D : Ends} {tz : TS}
/-- y = sorted({n ^ m for n in a new list for m in slot i}) -/
theorem q_asgXors {i j : Nat} {b : Addr} {ns ms : List Nat} (h : EvL tl σ H (nv ns)) (hi : σ[i]? = some (some (.ref b))) (hb : SqL K H b (nv ms)) (hn : ∀ n ∈ ns, n < 32) (hm : ∀ m ∈ ms, m < 32) (ln : ns.length ≤ 40) (lm : ms.length ≤ 40)
    (k : ∀ p L H1, H p = none → Ex H H1 → H1 p = some (.lst (nv L)) → L.Nodup → (∀ u, u ∈ L ↔ ∃ n ∈ ns, ∃ m ∈ ms, u = n ^^^ m) → tz D (σ.set j (some (.ref p))) H1) : tSeq (tAsg (tCB (rSortedSet w) (tCons (tXors K w tl i) tNil)) (gName j)) tz D σ H := by
  refine h H (Ex.refl _) _ fun a H1 ha e1 h1 => ?_
  refine ⟨a, b, ns, ms, rfl, sq_of h1, hi, ex_l e1 hb, ?_, fun Ds L hD nd mem => ?_⟩
  · have := Nat.mul_le_mul ln lm
    omega
  · have pos : ∀ k ∈ L, 0 ≤ k := fun k hk => by
      obtain ⟨n, _, m, _, e⟩ := (mem k).mp hk
      rw [e]; exact Int.natCast_nonneg _
    obtain ⟨M, rfl⟩ := nat_list pos
    have ndM := cast_nd nd
    have memM : ∀ u, u ∈ M ↔ ∃ n ∈ ns, ∃ m ∈ ms, u = n ^^^ m := fun u => by
      have z := mem ((u : Nat) : Int)
      constructor
      · intro hu
        obtain ⟨n, hn, m, hm, e⟩ := z.mp (List.mem_map.mpr ⟨u, hu, rfl⟩)
        exact ⟨n, hn, m, hm, by exact_mod_cast e⟩
      · rintro ⟨n, hn, m, hm, rfl⟩
        obtain ⟨v, hv, e⟩ := List.mem_map.mp (z.mpr ⟨n, hn, m, hm, rfl⟩)
        have : v = n ^^^ m := by exact_mod_cast e
        exact this ▸ hv
    have few := nd_len ndM (n := 32) fun u hu => by
      obtain ⟨n, h1, m, h2, rfl⟩ := (memM u).mp hu
      exact Nat.xor_lt_two_pow (n := 5) (hn n h1) (hm m h2)
    refine ⟨Ds, _, _, rfl, upd_same, by rw [List.length_map]; omega, fun ks p pw hks hl hp => ?_⟩
    have pos2 : ∀ k ∈ ks, 0 ≤ k := fun k hk => pos k (of_decide_eq_true ((hks k).mp hk))
    obtain ⟨N, rfl⟩ := nat_list pos2
    have e2 : Ex H1 (upd (upd H1 Ds (SetO w Ds (fun k => decide (k ∈ M.map fun n => ((n : Nat) : Int))) (M.map fun n => ((n : Nat) : Int)).length)) p (.lst ((N.map fun n => ((n : Nat) : Int)).map V.int))) := (Ex.new hD).trans (Ex.new hp)
    have nN : N.Nodup := by
      rw [List.pairwise_map] at pw
      rw [List.nodup_iff_pairwise_ne]
      exact pw.imp fun h e => by rw [e] at h; exact absurd h (by omega)
    refine k p N _ (fresh_back (e1.trans (Ex.new hD)) hp) (e1.trans e2) (by rw [upd_same, List.map_map]; rfl) nN fun u => ?_
    rw [← memM u]
    have z := hks ((u : Nat) : Int)
    rw [decide_eq_true_eq] at z
    constructor
    · intro hu
      obtain ⟨v, hv, e⟩ := List.mem_map.mp (z.mp (List.mem_map.mpr ⟨u, hu, rfl⟩))
      have : v = u := by exact_mod_cast e
      exact this ▸ hv
    · intro hu
      obtain ⟨v, hv, e⟩ := List.mem_map.mp (z.mpr (List.mem_map.mpr ⟨u, hu, rfl⟩))
      have : v = u := by exact_mod_cast e
      exact this ▸ hv
end
section
variable {P : Program} {w : World} {K : PySem.W.Frag} {mg : Str → Option Value} {base : Heap} {f : Addr} {fd : FuncData} {CF CN : Addr}
/-- Family(size, lots_from(masks)), the masks in slot j -/
theorem mk_famM {σ : L2.St} {H : Hp} {ts : TE} {Q : VK} {size j : Nat} {S : Nat → Prop} {p : Addr} {L : List Nat} (hs : Ev ts σ H (.int (size : Nat))) (h1 : 1 ≤ size) (h5 : size ≤ 5) (hp : H p = some (.lst (nv L))) (hj : σ[j]? = some (some (.ref p))) (nd : L.Nodup) (hb : ∀ k ∈ L, k < 1 <<< size) (hne : L ≠ []) (hS : ∀ k, k ∈ L ↔ S k) (q : RetFam CF size S H Q) :
    tMake CF (spFamA CF) [] C8.E0 (tCons ts (tCons (tCall (spLotsFrom K) [] C8.E0 (tCons (tVar j) tNil)) tNil)) σ H Q := by
  have h64 := pow64 (n := size) (by omega)
  have small : ∀ m ∈ L, m < 64 := fun m hm => by have := hb m hm; omega
  obtain ⟨m0, hm0⟩ := List.exists_mem_of_ne_nil _ hne
  refine mk_famA hs h1 h5 ⟨m0, (hS m0).mp hm0⟩ (fun k hk => hb k ((hS k).mpr hk)) (fun H1 e1 Q1 q1 => ?_) q
  refine ea_cons (ev_v j hj) ea_nil H1 e1 _ fun H2 e2 => ⟨p, L, rfl, sq_of (e2 _ _ (e1 _ _ hp)), ?_, small, fun M pm pw r rs H3 hr e3 h3 L3 => ?_⟩
  · exact Nat.le_trans (nd_len nd hb) (by omega)
  · obtain ⟨ms, rfl, pms⟩ := perm_lots pm small
    exact q1 r rs ms H3 (e2.trans e3) (.inl h3) (Lots.toP L3) (pms.nodup_iff.mpr nd) fun k => (pms.mem_iff).trans (hS k)
theorem ev_callS {σ : L2.St} {H : Hp} {ta : TA} {vs : List V} {v : V} {sp : Sp} {E : L2.St → XK} (h : EvA ta σ H vs) (k : ∀ H1, Ex H H1 → ∀ Q : VK, RetV v H1 Q → sp vs H1 Q (E σ)) : Ev (tCallS sp E ta) σ H v := fun H1 e Q q => h H1 e _ fun H2 e2 => k H2 (e.trans e2) Q fun H3 e3 => q H3 (e2.trans e3)
theorem q_chkT {σ : L2.St} {H : Hp} {ta : TA} {tb : TE} {r : R2} {vs : List V} {sp : Sp} {E : L2.St → XK} {D : Ends} {tu tw tz : TS} (h : EvA ta σ H vs) (k : ∀ H1, Ex H H1 → ∀ Q : VK, sp vs H1 Q (E σ)) : tSeq (tIfS (tTest (tOp r (tCallS sp E ta) tb)) tu tw) tz D σ H := h H (Ex.refl _) _ fun H1 e1 => k H1 e1 _
/-- the joins -/
def joinK (fm gm : List Nat) (k : Nat) : Prop := ∃ n ∈ fm, ∃ m ∈ gm, k = n ^^^ m
def spAddF (CF : Addr) : Sp := fun vs H Q _ => ∃ (a b : Addr) (size : Nat) (fm gm : List Nat), vs = [.ref a, .ref b] ∧ FamAt H CF a size fm ∧ FamOk size fm ∧ FamAt H CF b size gm ∧ FamOk size gm ∧ fm.length ≤ 40 ∧ gm.length ≤ 40 ∧ RetFam CF size (joinK fm gm) H Q
theorem sc_Family___add : FnScope ["self", "other", "others", "sums", "one", "two"] ["self", "other"] (defScope (inClass (top 30) 10)) := ⟨rfl, rfl, rfl, by decide +kernel, rfl, by decide +kernel, by decide +kernel⟩
theorem m_addF (C : FC K CF) (me : Meth K CF "__add__" f) (F : FunD K "__add__" "Family.__add__" (defArgs (inClass (top 30) 10)) (defBody (inClass (top 30) 10)) (defScope (inClass (top 30) 10)) [] [] f fd) (B : Bi mg) (c_family_masks : Cal P w K mg base 2 "family_masks" (spFm K CF fun _ fm => nv fm) []) (c_lots_from : Cal P w K mg base 2 "lots_from" (spLotsFrom K) []) (m_FamilyA : Mak P w K mg base 5 "Family" CF (spFamA CF) []) : Met P w K mg base 7 CF "__add__" (spAddF CF) [] := by
  have m_Family := m_FamilyA
  refine mkMet C.cls me F sc_Family___add (fun _ _ _ _ _ _ us hl => match us, hl with | [_, _], _ => rfl) (fun vs H Q E h => ?_) (fun cdv A outer s H vs Q E hr h => ?_)
  · obtain ⟨a, b, size, fm, gm, rfl, _⟩ := h
    rfl
  · obtain ⟨a, b, size, fm, gm, rfl, hf, ok, hg, okg, l1, l2, q⟩ := h
    refine ⟨_, (pss_cons (ps_if (pt_cmpR on_ne (pe_fld (pv 0) rfl) (pe_fld (pv 1) rfl) (nomark _)) (pss_one ps_never) pss_nil) (pss_cons (ps_set (i := 2) sc_Family___add.nd rfl (by first | exact Or.inl rfl | exact Or.inr rfl) (pe_c c_family_masks hr (by decide) rfl (pa_cons (pv 1) pa_nil))) (pss_cons (ps_set (i := 3) sc_Family___add.nd rfl (by first | exact Or.inl rfl | exact Or.inr rfl) (pe_callB (cr_sortedSetK (K := K) (w := w) rfl rfl rfl) (by rfl) B.sorted (by decide +kernel) (pa_cons (pe_xors (i := 2) (own := [("one", 4), ("two", 5)]) rfl (blkOk_by (own := [("one", 4), ("two", 5)]) (N := ["self", "other", "others", "sums", "one", "two"]) (sc := defScope (inClass (top 30) 10)) (by decide +kernel)) (pe_c c_family_masks hr (by decide) rfl (pa_cons (pv 0) pa_nil)) (by rfl)) pa_nil))) (pss_one (ps_ret (pe_mk m_Family hr (by decide) rfl (pa_cons (pe_fld (pv 0) rfl) (pa_cons (pe_c c_lots_from hr (by decide) rfl (pa_cons (pv 3) pa_nil)) pa_nil)))))))), ?_⟩
    have h5 := ok.s5
    refine q_when (b := !decide (size = size)) (et_test (ev_n (ev_size hf C (ev_v 0)) (ev_size hg C (ev_v 1)))) (fun hb => by simp at hb) (fun _ H1 e1 => ?_)
    refine q_asgL (xs := nv gm) (el_call (ea_cons (ev_v 1) ea_nil) fun H3 e3 Q3 q3 E3 => ⟨b, size, gm, rfl, (hg.ex e1).ex e3, okg, q3⟩) fun p H2 hp e2 h2 => ?_
    have e12 := e1.trans e2
    refine q_asgXors (ns := fm) (ms := gm) (b := p) (el_call (ea_cons (ev_v 0) ea_nil) fun H3 e3 Q3 q3 E3 => ⟨a, size, fm, rfl, (hf.ex e12).ex e3, ok, q3⟩) rfl (sq_of h2) ok.lt32 okg.lt32 l1 l2 fun r L H3 hr e3 h3 nd mem => ?_
    have e13 := e12.trans e3
    refine mk_famM (CF := CF) (p := r) (L := L) (S := joinK fm gm) (ev_size (hf.ex e13) C (ev_v 0)) ok.s1 h5 h3 rfl nd (fun k hk => ?_) ?_ mem (q.ex e13)
    · obtain ⟨n, hn, m, hm, rfl⟩ := (mem k).mp hk
      rw [Nat.one_shiftLeft]
      exact Nat.xor_lt_two_pow (by rw [← Nat.one_shiftLeft]; exact ok.lt n hn) (by rw [← Nat.one_shiftLeft]; exact okg.lt m hm)
    · obtain ⟨n, hn⟩ := List.exists_mem_of_ne_nil _ ok.ne
      obtain ⟨m, hm⟩ := List.exists_mem_of_ne_nil _ okg.ne
      intro z
      have := (mem (n ^^^ m)).mpr ⟨n, hn, m, hm, rfl⟩
      rw [z] at this
      cases this
/-- all lots with a number of things from low to high -/
def sizK (size low high k : Nat) : Prop := k < 1 <<< size ∧ low ≤ bits k ∧ bits k ≤ high
def spSizedF (CF : Addr) : Sp := fun vs H Q _ => ∃ size low high : Nat, vs = [.ref CF, .int size, .int low, .int high] ∧ 1 ≤ size ∧ size ≤ 5 ∧ (∃ k, sizK size low high k) ∧ RetFam CF size (sizK size low high) H Q
theorem ord_lots {size : Nat} (h5 : size ≤ 5) {L : List (List Nat)} (pm : L.Perm ((ordF size).map lotF)) (pw : L.Pairwise lexLe) : L = (ordF size).map lotF := lots_eq pm pw (ord_up size (by omega))
theorem el_ordLots {σ : L2.St} {H : Hp} {size i : Nat} {E1 E2 : XK} (h5 : size ≤ 5) (hi : σ[i]? = some (some (.int (size : Nat)))) : EvLots (tCall (spLotsFrom K) [] E1 (tCons (tCall spOrd [] E2 (tCons (tVar i) tNil)) tNil)) σ H ((ordF size).map lotF) := fun H1 e1 Q q => by
  have h64 := pow64 (n := size) (by omega)
  obtain ⟨_, low, _⟩ := ord_ok size (by omega)
  have few := (ord_perm size (by omega)).length_eq
  rw [List.length_range] at few
  have arg : EvL (tCall spOrd [] E2 (tCons (tVar i) tNil)) σ H (nv (ordF size)) := el_call (ea_cons (ev_v i hi) ea_nil) fun H6 e6 Q6 q6 E6 => ⟨size, rfl, h5, q6⟩
  exact arg H1 e1 _ fun p H6 hp e6 h6 => ⟨p, ordF size, rfl, sq_of h6, by omega, fun m hm => by have := low m hm; omega, fun L pm pw r rs H7 hr e7 h7 L7 => q r rs H7 (fresh_back e6 hr) (e6.trans e7) h7 (ord_lots h5 pm pw ▸ L7)⟩
theorem sc_Family_sized : FnScope ["cls", "size", "low", "high", "lot"] ["cls", "size", "low", "high"] (defScope (inClass (top 30) 3)) := ⟨rfl, rfl, rfl, by decide +kernel, rfl, by decide +kernel, by decide +kernel⟩
theorem m_sized {p : Addr} {mc : Value} (cr : CRead K CF mc) (cm : CMet K CF mc "sized" p f) (F : FunD K "sized" "Family.sized" (defArgs (inClass (top 30) 3)) (defBody (inClass (top 30) 3)) (defScope (inClass (top 30) 3)) [] [] f fd) (B : Bi mg) (c_check_family_size : Cal P w K mg base 2 "check_family_size" spSize []) (c_check_any_number : Cal P w K mg base 2 "check_any_number" spAnyNum []) (c_ordered_masks : Cal P w K mg base 1 "ordered_masks" spOrd []) (c_lots_from : Cal P w K mg base 2 "lots_from" (spLotsFrom K) []) (m_FamilyA : Mak P w K mg base 5 "Family" CF (spFamA CF) []) : CMt P w K mg base 7 CF "sized" (spSizedF CF) := by
  have m_Family := m_FamilyA
  refine ⟨p, f, mc, fd, ["cls", "size", "low", "high"], cr, cm, F.ok sc_Family_sized (fun vs H Q E h => ?_) (fun cdv A outer s H vs Q E hr h => (?_ : ∃ t, PSs (cxOf CX0 P w K mg base ["cls", "size", "low", "high", "lot"] "Family.sized" (defScope (inClass (top 30) 3)) f cdv A outer s H E).nox _ t ∧ t { nx := fun _ H' => Q .non H', rt := Q } (start ["cls", "size", "low", "high", "lot"] vs) H).elim fun t z => ⟨t, z.1.nox, z.2⟩), F.bindsN fun _ _ _ _ _ _ us hl => match us, hl with | [_, _, _, _], _ => rfl⟩
  · obtain ⟨size, low, high, rfl, _⟩ := h
    rfl
  · obtain ⟨size, low, high, rfl, h1, h5, ⟨k0, hk0⟩, q⟩ := h
    refine ⟨_, (pss_cons (ps_expr (pe_c c_check_family_size hr (by decide) rfl (pa_cons (pv 1) pa_nil))) (pss_cons (ps_expr (pe_c c_check_any_number hr (by decide) rfl (pa_cons (pv 2) (pa_cons pe_str pa_nil)))) (pss_cons (ps_expr (pe_c c_check_any_number hr (by decide) rfl (pa_cons (pv 3) (pa_cons pe_str pa_nil)))) (pss_one (ps_ret (pe_mkV (x := "Family") (i := 0) m_Family hr (by decide) (by rfl) (by first | exact Or.inl rfl | exact Or.inr (Or.inl rfl) | exact Or.inr (Or.inr rfl)) (pa_cons (pv 1) (pa_cons (pe_lc (own := [("lot", 4)]) (g := gName 4) (by rfl) sc_Family_sized.nd (pi_list (pe_c c_lots_from hr (by decide) rfl (pa_cons (pe_c c_ordered_masks hr (by decide) rfl (pa_cons (pv 1) pa_nil)) pa_nil))) (blkOk_by (own := [("lot", 4)]) (N := ["cls", "size", "low", "high", "lot"]) (sc := defScope (inClass (top 30) 3)) (by decide +kernel)) (fun _ _ _ _ _ => (pg_name (i := 4) sc_Family_sized.nd rfl (by first | exact Or.inl rfl | exact Or.inr rfl))) (fun _ _ _ _ _ => (pts_one (pt_chain on_le on_le (pv 2) (pe_callB (call_len_seqK (K := K) rfl) (by rfl) B.len (by decide +kernel) (pa_cons (pv 4) pa_nil)) (pv 3)))) (fun _ _ _ _ _ => (pv 4))) pa_nil)))))))), ?_⟩
    have h64 := pow64 (n := size) (by omega)
    obtain ⟨all, low', _⟩ := ord_ok size (by omega)
    have small : ∀ m ∈ ordF size, m < 64 := fun m hm => by have := low' m hm; omega
    refine q_drop (ev_call (z := .int (size : Nat)) (ea_cons (ev_v 1) ea_nil) fun H2 e2 Q2 q2 E2 => ⟨size, rfl, h1, by omega, q2⟩) fun H1 e1 => ?_
    refine q_drop (ev_call (z := .int (low : Nat)) (ea_cons (ev_v 2) (ea_cons ev_c ea_nil)) fun H2 e2 Q2 q2 E2 => ⟨_, _, rfl, q2⟩) fun H2 e2 => ?_
    refine q_drop (ev_call (z := .int (high : Nat)) (ea_cons (ev_v 3) (ea_cons ev_c ea_nil)) fun H2 e2 Q2 q2 E2 => ⟨_, _, rfl, q2⟩) fun H3 e3 => ?_
    refine ⟨rfl, mk_famA (ev_v 1) h1 h5 ⟨k0, hk0⟩ (fun k hk => hk.1) (fun H4 e4 Q4 q4 => ?_) (q.ex (e1.trans (e2.trans e3)))⟩
    have many : ((ordF size).map lotF).length ≤ 40000 := by
      have := (ord_perm size (by omega)).length_eq
      rw [List.length_range] at this
      rw [List.length_map]; omega
    have el := el_lotsNew (K := K) (te := tVar 4) (L := (ordF size).map lotF) (j := 4) (vs := [4]) (σ := start ["cls", "size", "low", "high", "lot"] [.ref CF, .int (size : Nat), .int (low : Nat), .int (high : Nat)]) (H := H4) (fun ns => decide (low ≤ ns.length) && decide (ns.length ≤ high)) id (el_ordLots (K := K) (E1 := C8.E0) (E2 := C8.E0) (i := 1) h5 rfl) many (fun _ => rfl) (fun r ns H5 e5 hr hm => et_test (ev_chainN (g := fun a b => decide (a ≤ b)) (g' := fun a b => decide (a ≤ b)) (ev_v 2) (ev_lenTup (K := K) (etup_v 4 hr)) (ev_v 3))) (fun r ns H5 e5 hr hm _ => etup_v 4 hr)
    refine el H4 (Ex.refl _) _ fun r rs H5 hr e5 h5' L5 => ?_
    · rw [List.map_id, List.filter_map] at L5
      refine q4 r rs _ H5 e5 (.inl h5') (Lots.toP L5) (((ord_perm size (by omega)).nodup_iff.mpr List.nodup_range).filter _) fun k => ?_
      rw [List.mem_filter]
      show (k ∈ ordF size ∧ (decide (low ≤ (lotF k).length) && decide ((lotF k).length ≤ high)) = true) ↔ _
      unfold sizK
      constructor
      · rintro ⟨hk, h⟩
        rw [lot_len k (small k hk), Bool.and_eq_true, decide_eq_true_eq, decide_eq_true_eq] at h
        exact ⟨low' k hk, h.1, h.2⟩
      · rintro ⟨hk, h1, h2⟩
        refine ⟨all k hk, ?_⟩
        rw [lot_len k (by omega), Bool.and_eq_true, decide_eq_true_eq, decide_eq_true_eq]
        exact ⟨h1, h2⟩
theorem full_bits : ∀ size : Nat, size < 6 → ∀ k : Nat, k ≤ size → ∃ u, u < 1 <<< size ∧ bits u = k := fun size hs k hk => by
  have chk : ∀ s : Nat, s < 6 → ∀ k : Nat, k < s + 1 → (List.range (1 <<< s)).any (fun u => decide (bits u = k)) = true := by decide +kernel
  obtain ⟨u, hu, e⟩ := List.any_eq_true.mp (chk size hs k (by omega))
  exact ⟨u, List.mem_range.mp hu, of_decide_eq_true e⟩
/-- the lots at just k things from one of fm -/
def jusK (fm : List Nat) (size k m : Nat) : Prop := m < 1 <<< size ∧ ∃ n ∈ fm, bits (n ^^^ m) = k
def spJust (CF CN : Addr) : Sp := fun vs H Q E => ∃ (a : Addr) (v : V) (size : Nat) (fm : List Nat), vs = [.ref a, v] ∧ FamAt H CF a size fm ∧ FamOk size fm ∧ ((∃ (k : Nat), v = .int (k : Nat) ∧ k ≤ size ∧ fm.length ≤ 40 ∧ RetFam CF size (jusK fm size k) H Q) ∨ ((BadV H v ∨ ∃ i, v = .int i ∧ (i < 0 ∨ (size : Int) < i)) ∧ Out CN "number" H E))
theorem sc_just_at : FnScope ["family", "number", "turns", "mask", "count", "masks", "turn"] ["family", "number"] (defScope (top 33)) := ⟨rfl, rfl, rfl, by decide +kernel, rfl, by decide +kernel, by decide +kernel⟩
theorem e_just_at (C : FC K CF) (x_BadNumber : Xc.ErrC K mg "BadNumber" "name" CN) (F : FnP K "just_at" (top 33) f fd) (g : mg "just_at" = some (.ref f)) (B : Bi mg) (c_check_number : CalE P w K mg base 3 "check_number" (spChkNum CN)) (c_thing_counts : Cal P w K mg base 2 "thing_counts" spCounts []) (c_family_masks : Cal P w K mg base 2 "family_masks" (spFm K CF fun _ fm => nv fm) []) (c_lots_from : Cal P w K mg base 2 "lots_from" (spLotsFrom K) []) (m_FamilyA : Mak P w K mg base 5 "Family" CF (spFamA CF) []) : CalE P w K mg base 7 "just_at" (spJust CF CN) := by
  have m_Family := m_FamilyA
  refine mkCalE F g sc_just_at (fun _ _ _ _ _ _ us hl => match us, hl with | [_, _], _ => rfl) (fun vs H Q E h => ?_) (fun cdv A outer s H vs Q E hr h => ?_)
  · obtain ⟨a, v, size, fm, rfl, _⟩ := h
    rfl
  · obtain ⟨a, v, size, fm, rfl, hf, ok, h⟩ := h
    refine ⟨_, (pss_cons (ps_if (pt_cmpR on_gt (pe_cE c_check_number hr (by decide) rfl (takes_of rfl rfl rfl rfl) (pa_cons (pv 1) (pa_cons pe_str (pa_cons (pe_nat 0 pe_int) pa_nil)))) (pe_fld (pv 0) rfl) (nomark _)) (pss_one (ps_raiseE x_BadNumber hr rfl (takes_of rfl rfl rfl rfl) (pa_cons pe_str pa_nil) rfl)) pss_nil) (pss_cons (ps_set (i := 2) sc_just_at.nd rfl (Or.inr rfl) (pe_lc (own := [("mask", 3), ("count", 4)]) (g := gTup K 2 (gCons (gName 3) (gCons (gName 4) gNil))) (by rfl) sc_just_at.nd (pi_enumA (by rfl) B.enumerate (pa_cons (pe_c c_thing_counts hr (by decide) rfl (pa_cons (pe_fld (pv 0) rfl) pa_nil)) pa_nil)) (blkOk_by (own := [("mask", 3), ("count", 4)]) (N := ["family", "number", "turns", "mask", "count", "masks", "turn"]) (sc := defScope (top 33)) (by decide +kernel)) (fun _ _ _ _ _ => (pg_tup rfl (pgs_cons (pg_name (i := 3) sc_just_at.nd rfl (by first | exact Or.inl rfl | exact Or.inr rfl)) (pgs_cons (pg_name (i := 4) sc_just_at.nd rfl (by first | exact Or.inl rfl | exact Or.inr rfl)) pgs_nil)))) (fun _ _ _ _ _ => (pts_one (pt_cmpR on_eq (pv 4) (pv 1) (nomark _)))) (fun _ _ _ _ _ => (pv 3)))) (pss_cons (ps_set (i := 5) sc_just_at.nd rfl (by first | exact Or.inl rfl | exact Or.inr rfl) (pe_callB (cr_sortedSetK (K := K) (w := w) rfl rfl rfl) (by rfl) B.sorted (by decide +kernel) (pa_cons (pe_xors (i := 2) (own := [("mask", 3), ("turn", 6)]) rfl (blkOk_by (own := [("mask", 3), ("turn", 6)]) (N := ["family", "number", "turns", "mask", "count", "masks", "turn"]) (sc := defScope (top 33)) (by decide +kernel)) (pe_c c_family_masks hr (by decide) rfl (pa_cons (pv 0) pa_nil)) (by rfl)) pa_nil))) (pss_one (ps_ret (pe_mk m_Family hr (by decide) rfl (pa_cons (pe_fld (pv 0) rfl) (pa_cons (pe_c c_lots_from hr (by decide) rfl (pa_cons (pv 5) pa_nil)) pa_nil)))))))), ?_⟩
    have h5 := ok.s5
    have h64 := pow64 (n := size) (by omega)
    have good : ∀ (k : Nat), v = .int (k : Nat) → ∀ W : WX, Ev (tCallS (spChkNum CN) (WE W) (tCons (tVar 1) (tCons (tC (.str "number")) (tCons (tC (.int ((0 : Nat) : Int))) tNil)))) (start ["family", "number", "turns", "mask", "count", "masks", "turn"] [.ref a, v]) H (.int (k : Nat)) := fun k e W => ev_callS (ea_cons (ev_v 1) (ea_cons ev_c (ea_cons ev_c ea_nil))) fun H2 e2 Q2 q2 => ⟨_, _, _, rfl, .inl ⟨(k : Int), e, by omega, by rw [e]; exact q2⟩⟩
    have raise : ∀ H1, Ex H H1 → Out CN "number" H E → tErr CN "name" (tCons (tC (.str "number")) tNil) (start ["family", "number", "turns", "mask", "count", "masks", "turn"] [.ref a, v]) H1 (fun cls d H' => E cls d H') := fun H1 e1 k => ea_cons ev_c ea_nil H1 (Ex.refl _) _ fun H2 e2 => ⟨_, rfl, fun d hd => k d _ (e1.trans (e2.trans (Ex.new hd))) upd_same⟩
    rcases h with ⟨k, rfl, hk, l1, q⟩ | ⟨bad, out⟩
    · refine q_when (b := decide (size < k)) (et_test (ev_n (good k rfl _) (ev_size hf C (ev_v 0)))) (fun hb => absurd (of_decide_eq_true hb) (by omega)) (fun _ H1 e1 => ?_)
      let F : Nat → V → Bool := fun _ v => match v with
        | .int j => decide (j = (k : Int))
        | _ => false
      have cl : (nv (cntF size)).length = 1 <<< size := by rw [nv_len, cnt_len]
      have el := el_enumV (K := K) (te := tVar 3) (tl := tCall spCounts [] C8.E0 (tCons (tFld K (tVar 0) "size") tNil)) (tt := tTest (tOp (rN0 fun a b => .bl (decide (a = b))) (tVar 4) (tVar 1))) (j1 := 3) (j2 := 4) (vs := [3, 4]) (xs := nv (cntF size)) (σ := [some (.ref a), some (.int (k : Nat)), none, none, none, none, none]) (H := H1) F (fun i _ => .int (i : Nat)) (el_call (ea_cons (ev_size (hf.ex e1) C (ev_v 0)) ea_nil) fun H3 e3 Q3 q3 E3 => ⟨size, rfl, by omega, q3⟩) (by rw [cl]; omega) (fun _ _ => rfl) (fun i v H3 e3 hv => by
        obtain ⟨n, hn, rfl⟩ := nv_get hv
        have : F i (.int (n : Nat)) = decide (n = k) := decide_eq_decide.mpr ⟨fun h => by omega, fun h => by omega⟩
        rw [this]
        exact et_test (ev_n (ev_v 4) (ev_v 1))) (fun i v H3 e3 hv _ => ev_v 3)
      have em : (((List.range (nv (cntF size)).length).filter fun i => F i ((nv (cntF size)).getD i .non)).map fun i => V.int ((i : Nat) : Int)) = nv ((List.range (1 <<< size)).filter fun m => decide (bits m = k)) := by
        unfold nv
        rw [show (List.map (fun n => V.int ((n : Nat) : Int)) (cntF size)).length = 1 <<< size from cl]
        congr 1
        refine List.filter_congr fun m hm => ?_
        have hm2 := List.mem_range.mp hm
        have g : (List.map (fun n => V.int ((n : Nat) : Int)) (cntF size)).getD m .non = .int (bits m : Nat) := by
          rw [List.getD_eq_getElem?_getD, show (List.map (fun n => V.int ((n : Nat) : Int)) (cntF size))[m]? = some (.int (bits m : Nat)) from cnt_get h5 hm2]; rfl
        rw [g]
        exact decide_eq_decide.mpr ⟨fun h => by omega, fun h => by omega⟩
      rw [em] at el
      refine q_asgL el fun p H2 hp e2 h2 => ?_
      have e12 := e1.trans e2
      refine q_asgXors (ns := fm) (ms := (List.range (1 <<< size)).filter fun m => decide (bits m = k)) (b := p) (el_call (ea_cons (ev_v 0) ea_nil) fun H3 e3 Q3 q3 E3 => ⟨a, size, fm, rfl, (hf.ex e12).ex e3, ok, q3⟩) rfl (sq_of h2) ok.lt32 (fun m hm => ?_) l1 ?_ fun r L H3 hr e3 h3 nd mem => ?_
      · exact sh32 h5 (List.mem_range.mp (List.mem_filter.mp hm).1)
      · refine Nat.le_trans (List.length_filter_le _ _) ?_
        rw [List.length_range]
        have : (1 : Nat) <<< size ≤ 32 := by
          rw [Nat.one_shiftLeft]
          exact Nat.pow_le_pow_right (by decide) h5
        omega
      have e13 := e12.trans e3
      have mem2 : ∀ m, m ∈ L ↔ jusK fm size k m := fun m => by
        rw [mem m]
        unfold jusK
        constructor
        · rintro ⟨n, hn, u, hu, rfl⟩
          obtain ⟨hu1, hu2⟩ := List.mem_filter.mp hu
          have hu1 := List.mem_range.mp hu1
          refine ⟨?_, n, hn, ?_⟩
          · rw [Nat.one_shiftLeft]
            exact Nat.xor_lt_two_pow (by rw [← Nat.one_shiftLeft]; exact ok.lt n hn) (by rw [← Nat.one_shiftLeft]; exact hu1)
          · rw [← Nat.xor_assoc, Nat.xor_self, Nat.zero_xor]; exact of_decide_eq_true hu2
        · rintro ⟨hm, n, hn, e⟩
          refine ⟨n, hn, n ^^^ m, List.mem_filter.mpr ⟨List.mem_range.mpr ?_, decide_eq_true e⟩, ?_⟩
          · rw [Nat.one_shiftLeft]
            exact Nat.xor_lt_two_pow (by rw [← Nat.one_shiftLeft]; exact ok.lt n hn) (by rw [← Nat.one_shiftLeft]; exact hm)
          · rw [← Nat.xor_assoc, Nat.xor_self, Nat.zero_xor]
      refine mk_famM (CF := CF) (p := r) (L := L) (S := jusK fm size k) (ev_size (hf.ex e13) C (ev_v 0)) ok.s1 h5 h3 rfl nd (fun m hm => ((mem2 m).mp hm).1) ?_ mem2 (q.ex e13)
      obtain ⟨n, hn⟩ := List.exists_mem_of_ne_nil _ ok.ne
      obtain ⟨u, hu, eu⟩ := full_bits size (by omega) k hk
      intro z
      have := (mem (n ^^^ u)).mpr ⟨n, hn, u, List.mem_filter.mpr ⟨List.mem_range.mpr hu, decide_eq_true eu⟩, rfl⟩
      rw [z] at this
      cases this
    · rcases bad with bad | ⟨i, rfl, hi | hi⟩
      · exact q_chkT (ea_cons (ev_v 1) (ea_cons ev_c (ea_cons ev_c ea_nil))) fun H1 e1 Q1 => ⟨_, _, _, rfl, .inr ⟨.inl (bad.ex e1), out.ex e1⟩⟩
      · exact q_chkT (ea_cons (ev_v 1) (ea_cons ev_c (ea_cons ev_c ea_nil))) fun H1 e1 Q1 => ⟨_, _, _, rfl, .inr ⟨.inr ⟨i, rfl, hi⟩, out.ex e1⟩⟩
      · obtain ⟨k, rfl⟩ := Int.eq_ofNat_of_zero_le (a := i) (by omega)
        exact q_when (b := decide (size < k)) (et_test (ev_n (good k rfl _) (ev_size hf C (ev_v 0)))) (fun _ H1 e1 => raise H1 e1 out) (fun hb => absurd hb (by simp; omega))
end
end W7
end
section
namespace W7
/-! ### within a depth, just at a gap, joins -/
theorem sub_chk7 : ∀ m : Nat, m < 32 → ∀ j : Nat, j < 6 → j ≤ bits m → (List.range 32).any (fun u => decide (u &&& m = u) && (decide (bits u = j) && decide (bits (m ^^^ u) = bits m - j))) = true := by decide +kernel
theorem sub_of7 {m j : Nat} (hm : m < 32) (hj : j ≤ bits m) : ∃ u, u < 32 ∧ u &&& m = u ∧ bits u = j ∧ bits (m ^^^ u) = bits m - j := by
  have b5 := bits_size 5 (by decide) m (by omega)
  obtain ⟨u, hu, h⟩ := List.any_eq_true.mp (sub_chk7 m hm j (by omega) hj)
  rw [Bool.and_eq_true, Bool.and_eq_true, decide_eq_true_eq, decide_eq_true_eq, decide_eq_true_eq] at h
  exact ⟨u, List.mem_range.mp hu, h.1, h.2.1, h.2.2⟩
theorem xor_lt {size a b : Nat} (ha : a < 1 <<< size) (hb : b < 1 <<< size) : a ^^^ b < 1 <<< size := by
  rw [Nat.one_shiftLeft] at *
  exact Nat.xor_lt_two_pow ha hb
theorem and_lt' {size u m : Nat} (hm : m < 1 <<< size) (h : u &&& m = u) : u < 1 <<< size := by
  have := Nat.and_le_right (n := u) (m := m)
  omega
theorem xxA (a b : Nat) : a ^^^ (a ^^^ b) = b := by rw [← Nat.xor_assoc, Nat.xor_self, Nat.zero_xor]
theorem xxB (a b : Nat) : (a ^^^ b) ^^^ b = a := by rw [Nat.xor_assoc, Nat.xor_self, Nat.xor_zero]
/-- the depth of a lot in the lots within k -/
theorem rk_within {size k t : Nat} {fm wm : List Nat} (ok : FamOk size fm) (okw : FamOk size wm) (hw : ∀ m, m ∈ wm ↔ inK fm size k m) (ht : t < 1 <<< size) : rkF wm t = rkF fm t - k := by
  have h5 := ok.s5
  apply Nat.le_antisymm
  · by_cases hd : rkF fm t ≤ k
    · have : t ∈ wm := (hw t).mpr ⟨ht, hd⟩
      have z := rk_le (t := t) this
      rw [Nat.xor_self, show bits 0 = 0 from by decide] at z
      omega
    · obtain ⟨n, hn, e⟩ := rk_at t ok.ne
      have ln := ok.lt n hn
      have l1 := xor_lt ln ht
      obtain ⟨u, _, hs, hb, hr⟩ := sub_of7 (m := n ^^^ t) (j := rkF fm t - k) (sh32 h5 l1) (by omega)
      have lu := and_lt' l1 hs
      have hg : t ^^^ u ∈ wm := by
        refine (hw _).mpr ⟨xor_lt ht lu, ?_⟩
        have z := rk_le (t := t ^^^ u) hn
        have e2 : n ^^^ (t ^^^ u) = (n ^^^ t) ^^^ u := by rw [Nat.xor_assoc]
        rw [e2, hr, e] at z
        omega
      have z := rk_le (t := t) hg
      have e3 : (t ^^^ u) ^^^ t = u := by rw [Nat.xor_comm t u, xxB]
      rw [e3, hb] at z
      exact z
  · obtain ⟨g, hg, e⟩ := rk_at t okw.ne
    obtain ⟨lg, hk⟩ := (hw g).mp hg
    have z := rk_tri ok ht (y := g ^^^ t) (xor_lt lg ht)
    have e2 : t ^^^ (g ^^^ t) = g := by rw [Nat.xor_comm g t, xxA]
    rw [e2, e] at z
    omega
theorem in_of_gap {size k m : Nat} {fm : List Nat} (ok : FamOk size fm) (hm : m < 1 <<< size) : inK fm size k m ↔ ∃ n ∈ fm, bits (n ^^^ m) ≤ k := by
  unfold inK
  constructor
  · rintro ⟨_, h⟩
    obtain ⟨n, hn, e⟩ := rk_at m ok.ne
    exact ⟨n, hn, by omega⟩
  · rintro ⟨n, hn, h⟩
    exact ⟨hm, Nat.le_trans (rk_le hn) h⟩
/-- within is a join -/
theorem in_join {size k : Nat} {fm gm : List Nat} (ok : FamOk size fm) (hg : ∀ m, m ∈ gm ↔ sizK size 0 k m) (m : Nat) : joinK fm gm m ↔ inK fm size k m := by
  unfold joinK
  constructor
  · rintro ⟨n, hn, u, hu, rfl⟩
    obtain ⟨lu, _, hb⟩ := (hg u).mp hu
    have lm := xor_lt (ok.lt n hn) lu
    exact (in_of_gap ok lm).mpr ⟨n, hn, by rw [xxA]; exact hb⟩
  · intro h
    obtain ⟨n, hn, hb⟩ := (in_of_gap ok h.1).mp h
    exact ⟨n, hn, n ^^^ m, (hg _).mpr ⟨xor_lt (ok.lt n hn) h.1, Nat.zero_le _, hb⟩, (xxA n m).symm⟩
theorem jus_join {size k : Nat} {fm gm : List Nat} (ok : FamOk size fm) (hg : ∀ m, m ∈ gm ↔ sizK size k k m) (m : Nat) : joinK fm gm m ↔ jusK fm size k m := by
  unfold joinK jusK
  constructor
  · rintro ⟨n, hn, u, hu, rfl⟩
    obtain ⟨lu, h1, h2⟩ := (hg u).mp hu
    exact ⟨xor_lt (ok.lt n hn) lu, n, hn, by rw [xxA]; omega⟩
  · rintro ⟨hm, n, hn, e⟩
    exact ⟨n, hn, n ^^^ m, (hg _).mpr ⟨xor_lt (ok.lt n hn) hm, by omega, by omega⟩, (xxA n m).symm⟩
theorem jus_in {size at_ m : Nat} {fm : List Nat} (ok : FamOk size fm) : (∃ k, k ≤ at_ ∧ jusK fm size k m) ↔ inK fm size at_ m := by
  constructor
  · rintro ⟨k, hk, hm, n, hn, e⟩
    exact (in_of_gap ok hm).mpr ⟨n, hn, by omega⟩
  · intro h
    obtain ⟨n, hn, hb⟩ := (in_of_gap ok h.1).mp h
    exact ⟨_, hb, h.1, n, hn, rfl⟩
/-! ### joins of gated families -/
theorem tb_xor3 {a b x : Nat} : (a ^^^ b).testBit x = true ↔ a.testBit x ≠ b.testBit x := by
  rw [Nat.testBit_xor]
  cases a.testBit x <;> cases b.testBit x <;> decide
theorem off_chk : ∀ a : Nat, a < 32 → ∀ x : Nat, x < 5 → a.testBit x = true → bits (a ^^^ (1 <<< x)) + 1 = bits a := by decide +kernel
theorem tb_off (a x : Nat) : (a ^^^ (1 <<< x)).testBit x = !a.testBit x := by
  rw [Nat.testBit_xor, Nat.one_shiftLeft, Nat.testBit_two_pow_self]
  cases a.testBit x <;> rfl
theorem tb_else {a x y : Nat} (h : x ≠ y) : (a ^^^ (1 <<< x)).testBit y = a.testBit y := by
  rw [Nat.testBit_xor, Nat.one_shiftLeft, Nat.testBit_two_pow_of_ne h, Bool.xor_false]
theorem lt5_of {a x : Nat} (ha : a < 32) (h : a.testBit x = true) : x < 5 := by
  by_cases hx : x < 5
  · exact hx
  · have : a < 2 ^ x := Nat.lt_of_lt_of_le ha (Nat.pow_le_pow_right (n := 2) (i := 5) (by decide) (by omega))
    rw [Nat.testBit_lt_two_pow this] at h
    cases h
theorem xb32 {a b : Nat} (ha : a < 32) (hb : b < 32) : a ^^^ b < 32 := Nat.xor_lt_two_pow (n := 5) ha hb
theorem sh32' {x : Nat} (h : x < 5) : 1 <<< x < 32 := by
  rw [Nat.one_shiftLeft]
  exact Nat.pow_lt_pow_right (n := 5) (by decide) h
/-- the zigzag between two families -/
theorem zig : ∀ (N : Nat) (A B : Nat → Prop), EX A → EX B → ∀ (s s2 d d2 z : Nat), s < 32 → s2 < 32 → d < 32 → d2 < 32 → bits (s ^^^ s2) + bits (d ^^^ d2) ≤ N → A s → A s2 → B d → B d2 → (s ^^^ s2).testBit z = true → (d ^^^ d2).testBit z = false →
    (∃ a b, A a ∧ B b ∧ a ^^^ b = (s ^^^ d) ^^^ (1 <<< z)) ∨ ∃ w, w ≠ z ∧ ((s ^^^ s2).testBit w ≠ (d ^^^ d2).testBit w) ∧ ∃ a b, A a ∧ B b ∧ a ^^^ b = ((s ^^^ d) ^^^ (1 <<< z)) ^^^ (1 <<< w) := by
  intro N
  induction N with
  | zero =>
    intro A B _ _ s s2 d d2 z hs hs2 hd hd2 hN _ _ _ _ hz _
    have l := xb32 hs hs2
    have e := bits_zero _ l (by omega)
    rw [e, Nat.zero_testBit] at hz
    cases hz
  | succ N ih =>
    intro A B hA hB s s2 d d2 z hs hs2 hd hd2 hN as as2 bd bd2 hz hdz
    have l := xb32 hs hs2
    have z5 := lt5_of l hz
    rcases hA s s2 as as2 z hz with h | ⟨y, hy, hys, h⟩
    · refine .inl ⟨_, d, h, bd, ?_⟩
      rw [Nat.xor_assoc, Nat.xor_comm (1 <<< z) d, ← Nat.xor_assoc]
    · have y5 := lt5_of l hys
      have form : (s ^^^ (1 <<< z)) ^^^ (1 <<< y) ^^^ d = ((s ^^^ d) ^^^ (1 <<< z)) ^^^ (1 <<< y) := by
        rw [Nat.xor_assoc (s ^^^ 1 <<< z), Nat.xor_comm (1 <<< y) d, ← Nat.xor_assoc, Nat.xor_assoc s, Nat.xor_comm (1 <<< z) d, ← Nat.xor_assoc]
      cases hdy : (d ^^^ d2).testBit y with
      | false => exact .inr ⟨y, hy, by rw [hys, hdy]; decide, _, d, h, bd, form⟩
      | true =>
        have l2 : (s ^^^ (1 <<< z)) ^^^ (1 <<< y) < 32 := xb32 (xb32 hs (sh32' z5)) (sh32' y5)
        have gap : ((s ^^^ (1 <<< z)) ^^^ (1 <<< y)) ^^^ s2 = ((s ^^^ s2) ^^^ (1 <<< z)) ^^^ (1 <<< y) := by
          rw [Nat.xor_assoc (s ^^^ 1 <<< z), Nat.xor_comm (1 <<< y) s2, ← Nat.xor_assoc, Nat.xor_assoc s, Nat.xor_comm (1 <<< z) s2, ← Nat.xor_assoc]
        have o1 := off_chk (s ^^^ s2) l z z5 hz
        have o2 := off_chk ((s ^^^ s2) ^^^ (1 <<< z)) (xb32 l (sh32' z5)) y y5 (by rw [tb_else (Ne.symm hy)]; exact hys)
        have gy : (((s ^^^ (1 <<< z)) ^^^ (1 <<< y)) ^^^ s2).testBit y = false := by
          rw [gap, tb_off, tb_else (Ne.symm hy), hys]; rfl
        have gz : (((s ^^^ (1 <<< z)) ^^^ (1 <<< y)) ^^^ s2).testBit z = false := by
          rw [gap, tb_else hy, tb_off, hz]; rfl
        have goe : ∀ w, w ≠ z → w ≠ y → (((s ^^^ (1 <<< z)) ^^^ (1 <<< y)) ^^^ s2).testBit w = (s ^^^ s2).testBit w := fun w h1 h2 => by
          rw [gap, tb_else (Ne.symm h2), tb_else (Ne.symm h1)]
        rcases ih B A hB hA d d2 ((s ^^^ (1 <<< z)) ^^^ (1 <<< y)) s2 y hd hd2 l2 hs2 (by rw [gap]; omega) bd bd2 h as2 hdy gy with ⟨b, a, hb, ha, e⟩ | ⟨w, hw, hwb, b, a, hb, ha, e⟩
        · refine .inl ⟨a, b, ha, hb, ?_⟩
          rw [Nat.xor_comm a b, e, Nat.xor_comm d, form, xxB]
        · have wz : w ≠ z := fun e2 => by
            rw [e2, hdz, gz] at hwb
            exact hwb rfl
          refine .inr ⟨w, wz, ?_, a, b, ha, hb, ?_⟩
          · rw [goe w wz hw] at hwb
            exact Ne.symm hwb
          · rw [Nat.xor_comm a b, e, Nat.xor_comm d, form, xxB]
theorem join_ex {A B : Nat → Prop} (hA : EX A) (hB : EX B) (lA : ∀ m, A m → m < 32) (lB : ∀ m, B m → m < 32) : EX (fun k => ∃ n, A n ∧ ∃ m, B m ∧ k = n ^^^ m) := by
  rintro k1 k2 ⟨n, hn, m, hm, rfl⟩ ⟨n2, hn2, m2, hm2, rfl⟩ x hx
  have re : (n ^^^ m) ^^^ (n2 ^^^ m2) = (n ^^^ n2) ^^^ (m ^^^ m2) := by
    rw [Nat.xor_assoc, Nat.xor_comm m, Nat.xor_assoc n2, ← Nat.xor_assoc, Nat.xor_comm m2 m]
  have two : ∀ w, ((n ^^^ m) ^^^ (n2 ^^^ m2)).testBit w = true ↔ (n ^^^ n2).testBit w ≠ (m ^^^ m2).testBit w := fun w => by rw [re]; exact tb_xor3
  rw [two] at hx
  cases h1 : (n ^^^ n2).testBit x with
  | true =>
    have h2 : (m ^^^ m2).testBit x = false := by
      cases h : (m ^^^ m2).testBit x with
      | false => rfl
      | true => exact absurd (h1.trans h.symm) hx
    rcases zig _ A B hA hB n n2 m m2 x (lA _ hn) (lA _ hn2) (lB _ hm) (lB _ hm2) (Nat.le_refl _) hn hn2 hm hm2 h1 h2 with ⟨a, b, ha, hb, e⟩ | ⟨w, hw, hwb, a, b, ha, hb, e⟩
    · exact .inl ⟨a, ha, b, hb, e.symm⟩
    · exact .inr ⟨w, hw, (two w).mpr hwb, a, ha, b, hb, e.symm⟩
  | false =>
    have h2 : (m ^^^ m2).testBit x = true := by
      cases h : (m ^^^ m2).testBit x with
      | true => rfl
      | false => exact absurd (h1.trans h.symm) hx
    rcases zig _ B A hB hA m m2 n n2 x (lB _ hm) (lB _ hm2) (lA _ hn) (lA _ hn2) (Nat.le_refl _) hm hm2 hn hn2 h2 h1 with ⟨b, a, hb, ha, e⟩ | ⟨w, hw, hwb, b, a, hb, ha, e⟩
    · exact .inl ⟨a, ha, b, hb, by rw [Nat.xor_comm a b, e, Nat.xor_comm m n]⟩
    · exact .inr ⟨w, hw, (two w).mpr (Ne.symm hwb), a, ha, b, hb, by rw [Nat.xor_comm a b, e, Nat.xor_comm m n]⟩
theorem siz_chk : ∀ m : Nat, m < 32 → ∀ g : Nat, g < 32 → ∀ x : Nat, x < 5 → (!(m ^^^ g).testBit x || (!decide (bits m = bits g) || (List.range 5).any (fun y => !decide (y = x) && ((m ^^^ g).testBit y && decide (bits ((m ^^^ (1 <<< x)) ^^^ (1 <<< y)) = bits m))))) = true := by decide +kernel
theorem siz_chk2 : ∀ m : Nat, m < 32 → ∀ g : Nat, g < 32 → ∀ x : Nat, x < 5 → (!(m ^^^ g).testBit x || (decide (bits (m ^^^ (1 <<< x)) ≤ max (bits m) (bits g)) || (List.range 5).any (fun y => !decide (y = x) && ((m ^^^ g).testBit y && decide (bits ((m ^^^ (1 <<< x)) ^^^ (1 <<< y)) ≤ max (bits m) (bits g)))))) = true := by decide +kernel
theorem bit_size {size a x : Nat} (ha : a < 1 <<< size) (h : a.testBit x = true) : 1 <<< x < 1 <<< size := by
  by_cases hx : x < size
  · rw [Nat.one_shiftLeft, Nat.one_shiftLeft]
    exact Nat.pow_lt_pow_right (by decide) hx
  · rw [Nat.one_shiftLeft] at ha
    have : a < 2 ^ x := Nat.lt_of_lt_of_le ha (Nat.pow_le_pow_right (by decide) (by omega))
    rw [Nat.testBit_lt_two_pow this] at h
    cases h
theorem siz_ex {size low high : Nat} (h5 : size ≤ 5) (h : low = 0 ∨ low = high) : EX (sizK size low high) := by
  rintro m g ⟨hm, m1, m2⟩ ⟨hg, g1, g2⟩ x hx
  have lm := sh32 h5 hm
  have lg := sh32 h5 hg
  have lx := lt5_of (xb32 lm lg) hx
  have sx := bit_size (xor_lt hm hg) hx
  have c1 := siz_chk m lm g lg x lx
  have c2 := siz_chk2 m lm g lg x lx
  rw [hx, Bool.not_true, Bool.false_or] at c1 c2
  have done : ∀ y, (m ^^^ g).testBit y = true → ((m ^^^ (1 <<< x)) ^^^ (1 <<< y)) < 1 <<< size := fun y hy => xor_lt (xor_lt hm sx) (bit_size (xor_lt hm hg) hy)
  rcases h with rfl | rfl
  · rw [Bool.or_eq_true, decide_eq_true_eq] at c2
    rcases c2 with c2 | c2
    · exact .inl ⟨xor_lt hm sx, Nat.zero_le _, by omega⟩
    · obtain ⟨y, _, hy⟩ := List.any_eq_true.mp c2
      rw [Bool.and_eq_true, Bool.and_eq_true, decide_eq_true_eq] at hy
      obtain ⟨h1, h2, h3⟩ := hy
      exact .inr ⟨y, by simpa using h1, h2, done y h2, Nat.zero_le _, by omega⟩
  · obtain ⟨y, _, hy⟩ := List.any_eq_true.mp (by
      rw [show decide (bits m = bits g) = true from decide_eq_true (by omega), Bool.not_true, Bool.false_or] at c1
      exact c1)
    rw [Bool.and_eq_true, Bool.and_eq_true, decide_eq_true_eq] at hy
    obtain ⟨h1, h2, h3⟩ := hy
    exact .inr ⟨y, by simpa using h1, h2, done y h2, by omega, by omega⟩
end W7
end
section
namespace W7
open PySem PySem.Spec PyProof.Rows L2 L3 Evl PySem.W
open C8 (Met)
section
variable {K : Frag} {s : Shared} {w : World} {prog : Program} {E : Value → Shared → Prop} {A : Around}
/-- what a != b leaves of the answer of a == b -/
def Turned (Q : Value → Shared → Prop) (v : Value) (s' : Shared) : Prop := ∃ b, v = .bool b ∧ Q (.bool (!b)) s'
/-- object.__ne__ at an instance whose class has an own __eq__ -/
theorem ne_body {a y C f : Addr} {ox : Obj} {od : Option Obj} {R : Fin → Shared → Prop} {Q : Value → Shared → Prop} (X : K.In s.heap) (I : PySem.W.InstAt s.heap a ox C od) (hu : A.units < cLine) (he : findIn K (.ref C) "__eq__" = some (some (.ref f))) (hf : isFn K (.ref f) = true) (hR : ∀ v s', Q v s' → R (.done (.ret v)) s')
    (h : wpAny (model prog w) A (call (.ref f) [.ref a, .ref y]) (Turned Q) E s) : wpAny (model prog w) A (Builtin.«object.__ne__» ⟨[.ref a, .ref y], []⟩) R E s := by
  have sa : slotArgs "__ne__" 1 { pos := [Value.ref a, Value.ref y] } = pure (Value.ref a, [Value.ref y]) := by rfl
  delta Builtin.«object.__ne__»
  rw [sa]
  refine wpAny_bind (wpAny_pure (wpAny_bind (wpAny_cRoomFor hu (wpAny_bind (ifBound_K X I he hf (wpAny_mono h (fun v s' ⟨b, e, z⟩ => ?_) fun _ _ e => e))))))
  subst e
  exact wpAny_bind (wpAny_truthy_bool (wpAny_pure (hR _ _ z)))
/-- the call of object.__ne__ at such an instance -/
theorem ne_call {a y C f : Addr} {ox : Obj} {od : Option Obj} {Q : Value → Shared → Prop} (X : K.In s.heap) (I : PySem.W.InstAt s.heap a ox C od) (hu : A.units + 1 < cLine) (he : findIn K (.ref C) "__eq__" = some (some (.ref f))) (hf : isFn K (.ref f) = true) (hm : mroIn K C (.type "object") = some true)
    (h : wpAny (model prog w) A.in1 (call (.ref f) [.ref a, .ref y]) (Turned Q) E s) : wpAny (model prog w) A (call (.builtin "object.__ne__") [.ref a, .ref y]) Q E s := by
  have l : Looks (model prog w) s.heap (isInstance (.ref a) (.type "object")) true := by
    unfold isInstance
    exact (I.type).andThen (looks_mroIn X hm)
  refine wpAny_call (codeAny_call_builtin F.cmp_object.ne.plain F.cmpEntry_ne (check_slot F.cmpKind_ne F.cmpSplit_ne l (F.cmpArgs_ne _ _) ?_))
  exact ne_body X I hu he hf (fun v s' z => z) h
/-- a != b, by the class's own __eq__ and object.__ne__ -/
theorem ne_wp {a b C f : Addr} {ox : Obj} {od : Option Obj} {Q : Value → Shared → Prop} (X : K.In s.heap) (I : PySem.W.InstAt s.heap a ox C od) (hb : Looks (model prog w) s.heap (typeOf (.ref b)) (.ref C)) (hu : A.units + 1 < cLine) (he : findIn K (.ref C) "__eq__" = some (some (.ref f))) (hn : findIn K (.ref C) "__ne__" = some (some (.builtin "object.__ne__"))) (hf : isFn K (.ref f) = true) (hm : mroIn K C (.type "object") = some true)
    (h : wpAny (model prog w) A.in1 (call (.ref f) [.ref a, .ref b]) (Turned Q) E s) : wpAny (model prog w) A (compareOp .NotEq (.ref a) (.ref b)) Q E s := by
  refine cmp_ofNotEq ?_
  have sp : Looks (model prog w) s.heap (specialOf (.ref a) "__ne__") (some (.builtin "object.__ne__")) := by
    unfold specialOf
    exact (I.type).andThen (looks_findIn X hn)
  have one : wpAny (model prog w) A (tryCompare (.ref a) "__ne__" (.ref b)) (fun r s' => ∃ v, r = some v ∧ Q v s') E s := by
    unfold tryCompare
    refine wpAny_bind (NtL.csib sp (F.cmp_object.ne.bind _) (ne_call X I hu he hf hm (wpAny_mono h (fun v s' z => ?_) fun _ _ e => e)))
    obtain ⟨k, rfl, z⟩ := z
    exact ⟨k, rfl, wpAny_pure ⟨_, rfl, z⟩⟩
  unfold richCompare
  refine wpAny_holding (wpAny_bind (wpAny_cRoomFor (Nat.lt_of_succ_lt hu) ?_))
  have o1 : oneThing? .NotEq (.ref a) (.ref b) = none := by rfl
  rw [o1]
  dsimp only [cmpInfo]
  exact wpAny_bind (I.type.here (wpAny_bind (hb.here (by
    rw [if_neg (by simp)]
    exact wpAny_bind (wpAny_pure (by
      rw [if_neg (by decide)]
      exact wpAny_bind (wpAny_mono one (fun r s' ⟨v, e, z⟩ => e ▸ wpAny_pure z) fun _ _ e => e)))))))
end
section
variable {X : Cx}
/-- the same place, one more unit deep -/
def inX (X : Cx) : Cx := { X with A := X.A.in1 }
theorem inv_in {pins : List (Addr × Obj)} {σ : L2.St} {H : Hp} {s : Shared} (I : Inv X pins σ H s) : Inv (inX X) pins σ H s :=
  { ok := { I.ok with }, os := I.os, bare := I.bare, base := I.base, loc := I.loc, cell := I.cell, free := I.free, freeC := I.freeC, pin := I.pin, hok := I.hok, len := I.len }
theorem inv_out {pins : List (Addr × Obj)} {σ : L2.St} {H : Hp} {s : Shared} (I : Inv (inX X) pins σ H s) : Inv X pins σ H s :=
  { ok := { I.ok with }, os := I.os, bare := I.bare, base := I.base, loc := I.loc, cell := I.cell, free := I.free, freeC := I.freeC, pin := I.pin, hok := I.hok, len := I.len }
/-- a != b of two instances of a class with an own __eq__ and no own __ne__ -/
def rNeI (C : Addr) (sp : Sp) : R2 := fun x y H Q => ∃ a dx fs b dy gs, x = .ref a ∧ y = .ref b ∧ H a = some (.ins C dx fs) ∧ H b = some (.ins C dy gs) ∧ sp [x, y] H (fun v H' => ∃ k, v = .bl k ∧ Q (.bl (!k)) H') C8.E0
theorem op_neI {k j : Nat} {C : Addr} {sp : Sp} (m : Met X.prog X.w X.K X.mg X.base k C "__eq__" sp []) (hn : findIn X.K (.ref C) "__ne__" = some (some (.builtin "object.__ne__"))) (hm : mroIn X.K C (.type "object") = some true) (hr : Room j X.A) (hk : k + 1 ≤ j) : OpR X (compareOp .NotEq) (rNeI C sp) := by
  intro pins s σ H x y v u Q I rx ry ⟨a, dx, fs, b, dy, gs, ex, ey, ha, hb, q⟩
  subst ex
  subst ey
  obtain rfl : v = .ref a := rx
  obtain rfl : u = .ref b := ry
  obtain ⟨f, fd, ps, ds, cls, me, F, bd, vd⟩ := m.ex
  obtain ⟨mA, oa, _⟩ := ins_get I.hok ha
  obtain ⟨mB, ob, _⟩ := ins_get I.hok hb
  obtain ⟨oda, ia, _⟩ := oa.look
  obtain ⟨odb, ib, _⟩ := ob.look
  have raw := F.raw bd vd
  have r1 : Room k (inX X).A := (hr.mono hk).in1
  have hun : X.A.units + 1 < cLine := by have := hr.un; omega
  refine ne_wp I.kIn ia ib.type hun me.at_ hn me.fn hm (wpAny_call ?_)
  refine codeAny_mono (run_fnR (X := inX X) (Q := fun v H' => ∃ k, v = .bl k ∧ Q (.bl (!k)) H') (E := C8.E0) raw r1 C8.pass0 (inv_in I) (us := [.ref a, .ref b]) (vs := [.ref a, .ref b]) (.cons rfl (.cons rfl .nil)) (by simpa using q)) fun r s' h => ?_
  match r, h with
  | .ok (.ret v), h =>
    obtain ⟨z, H', I', rz, k, rfl, hz⟩ := h
    obtain rfl : v = .bool k := rz
    exact ⟨k, rfl, .bl (!k), H', inv_out I', rfl, hz⟩
  | .error e, h => exact h
end
end W7
end
section
namespace W7
open PySem PySem.Spec PyProof.Rows L2 L3 Evl
section
variable {X : Cx} {K : PySem.W.Frag}
/-- xs[::-1], K said -/
theorem pe_revK {e : Expr} {te : TE} {k : Nat} {p1 p2 p3 pos : Pos} (hK : X.K = K) (he : PE X e te) : PE X (.Subscript e (.Slice none none (some (.UnaryOp .USub (.Constant (.int 1) k p1) p2)) p3) pos) (tRevL K te) := hK ▸ pe_revL he
def rLstOf (K : PySem.W.Frag) : List V → Hp → VK → Prop := fun vs H Q => ∃ p ys, vs = [.ref p] ∧ (SqL K H p ys ∨ SqT K H p ys) ∧ ∀ l, H l = none → Q (.ref l) (upd H l (.lst ys))
theorem cr_lstOfK (hK : X.K = K) : CallR X (.type "list") (rLstOf K) := hK ▸ call_list_of
end
section
variable {K : PySem.W.Frag} {σ : L2.St} {H : Hp} {te : TE}
theorem el_lstOf {a : Addr} {xs : List V} (h : Ev te σ H (.ref a)) (hx : SqL K H a xs ∨ SqT K H a xs) : EvL (tCB (rLstOf K) (tCons te tNil)) σ H xs := fun H1 e Q q => h H1 e _ fun H2 e2 => ⟨a, xs, rfl, hx.imp (ex_l (e.trans e2)) (ex_t (e.trans e2)), fun l hl => q l _ (fresh_back e2 hl) (e2.trans (Ex.new hl)) upd_same⟩
theorem el_lstOfU {xs : List V} (h : EvU te σ H xs) : EvL (tCB (rLstOf K) (tCons te tNil)) σ H xs := fun H1 e Q q => h H1 e _ fun a H2 ha e2 h2 => ⟨a, xs, rfl, .inr (st_of h2), fun l hl => q l _ (fresh_back e2 hl) (e2.trans (Ex.new hl)) upd_same⟩
theorem el_rev {xs : List V} (h : EvL te σ H xs) : EvL (tRevL K te) σ H xs.reverse := fun H1 e Q q => h H1 e _ fun a H2 ha e2 h2 => ⟨a, xs, rfl, sq_of h2, fun l hl => q l _ (fresh_back e2 hl) (e2.trans (Ex.new hl)) upd_same⟩
theorem el_revV {a : Addr} {xs : List V} (h : Ev te σ H (.ref a)) (hx : SqL K H a xs) : EvL (tRevL K te) σ H xs.reverse := fun H1 e Q q => h H1 e _ fun H2 e2 => ⟨a, xs, rfl, ex_l (e.trans e2) hx, fun l hl => q l _ (fresh_back e2 hl) (e2.trans (Ex.new hl)) upd_same⟩
end
end W7
end
section
namespace W7
open PySem PySem.Spec PyProof.Rows L2 L3 Evl
open C8 (Cal pe_c Mak pe_mk Met pe_mt pe_mt0)
theorem nv_rev (ns : List Nat) : (nv ns).reverse = nv ns.reverse := by unfold nv; rw [List.map_reverse]
theorem perm_rev {ns ms : List Nat} (h : ns.Perm ms) : ns.reverse.Perm ms := ns.reverse_perm.trans h
theorem LotsP.push {H : Hp} {rs : List V} {ms : List Nat} {b : Addr} {ns : List Nat} {m : Nat} (h : LotsP H rs ms) (hb : LotA H b ns) (hp : ns.Perm (lotF m)) : LotsP H (rs ++ [.ref b]) (ms ++ [m]) :=
  h.app ⟨rfl, fun i r k x y => by
    cases i with
    | zero =>
      cases x
      cases y
      exact ⟨b, ns, rfl, hb, hp⟩
    | succ i => cases x⟩
theorem LotsP.mut {H : Hp} {rs : List V} {ms : List Nat} {D : Addr} {us ys : List V} (h : LotsP H rs ms) (hn : ∀ r ∈ rs, r ≠ .ref D) : LotsP (upd H D (.lst ys)) rs ms := ⟨h.1, fun i r m x y => by
  obtain ⟨b, ns, rfl, hb, hp⟩ := h.2 i r m x y
  have hbD : b ≠ D := fun e => hn _ (List.mem_of_getElem? x) (by rw [e])
  refine ⟨b, ns, rfl, ?_, hp⟩
  rcases hb with hb | hb
  · exact .inl (by rw [upd_ne hbD]; exact hb)
  · exact .inr (by rw [upd_ne hbD]; exact hb)⟩
section
variable {K : PySem.W.Frag} {σ : L2.St} {H : Hp} {tl : TE}
/-- [list(r)[::-1] for r in a new list of lots] -/
theorem el_flip {rs : List V} {ms : List Nat} {j : Nat} {vs : List Nat} (hl : ∀ H1, Ex H H1 → ∀ Q : VK, (∀ p H2, Ex H1 H2 → H2 p = some (.lst rs) → Lots H2 rs (ms.map lotF) → Q (.ref p) H2) → tl σ H1 Q) (hz : ms.length ≤ 64) (hw : ∀ x, wipe ((wipe σ vs).set j (some x)) vs = wipe σ vs) (hj : ∀ x : V, ((wipe σ vs).set j (some x))[j]? = some (some x)) :
    ∀ H1, Ex H H1 → ∀ Q : VK, (∀ p us H2, Ex H1 H2 → H2 p = some (.lst us) → LotsP H2 us ms → Q (.ref p) H2) → tLc (iList K tl) (gName j) tYes (tRevL K (tCB (rLstOf K) (tCons (tVar j) tNil))) vs σ H1 Q := fun H0 e Q q => hl H0 e _ fun a H1 e1 hx hL => ⟨a, rfl, ⟨rs, sq_of hx⟩, fun Dl hD =>
  lc_list (xs := rs) (fun i H' => H1 Dl = none ∧ Ex H1 H' ∧ ∃ us, H' Dl = some (.lst us) ∧ us.length = i ∧ (∀ r ∈ us, r ≠ .ref Dl) ∧ LotsP H' us (ms.take i)) ⟨hD, Ex.new hD, [], upd_same, rfl, (fun r hr => by cases hr), ⟨rfl, fun i r m x y => by cases x⟩⟩ (fun i H' _ p => sq_of (p.2.1 _ _ hx)) (fun i x H' hi ⟨p1, p2, us, p3, p4, p5, p6⟩ => ⟨hw x, by
    have hil : i < ms.length := by
      have h1 := (List.getElem?_eq_some_iff.mp hi).1
      rw [hL.1, List.length_map] at h1
      exact h1
    have hm : ms[i]? = some ms[i] := List.getElem?_eq_some_iff.mpr ⟨hil, rfl⟩
    obtain ⟨t, rfl, ht⟩ := (hL.2 i x (lotF ms[i]) hi (by rw [List.getElem?_map, hm]; rfl)).ex p2
    have el : EvL (tRevL K (tCB (rLstOf K) (tCons (tVar j) tNil))) ((wipe σ vs).set j (some (.ref t))) H' (nv (lotF ms[i]).reverse) := by
      rw [← nv_rev]
      exact el_rev (el_lstOf (ev_var (hj _)) (.inr (st_of ht)))
    unfold tYes
    dsimp only
    rw [if_pos rfl]
    refine el H' (Ex.refl _) _ fun b H4 hb e4 h4 => ⟨us, e4 _ _ p3, sz_lt (by omega), p1, Ex.mut (p2.trans e4) p1, us ++ [.ref b], upd_same, by rw [List.length_append, p4]; rfl, ?_, ?_⟩
    · intro r hr
      rcases List.mem_append.mp hr with h | h
      · exact p5 r h
      · rw [List.mem_singleton.mp h]
        intro e5
        cases e5
        rw [p3] at hb
        cases hb
    · have hbD : b ≠ Dl := fun e5 => by rw [e5] at hb; rw [p3] at hb; cases hb
      rw [List.take_add_one, hm, Option.toList_some]
      refine LotsP.push ((p6.ex e4).mut (us := us) p5) (ns := (lotF ms[i]).reverse) (.inl ?_) (perm_rev (List.Perm.refl _))
      rw [upd_ne hbD]; exact h4⟩) (fun H' ⟨p1, p2, us, p3, _, _, p6⟩ => q Dl us H' (e1.trans p2) p3 (by rw [hL.1, List.length_map, List.take_length] at p6; exact p6))⟩
end
section
variable {P : Program} {w : World} {K : PySem.W.Frag} {mg : Str → Option Value} {base : Heap} {f : Addr} {fd : FuncData} {CF : Addr}
def spFamOf (CF : Addr) : Sp := fun vs H Q _ => ∃ (d p : Addr) (size : Nat) (ms : List Nat), vs = [.ref d, .int size, .ref p] ∧ 1 ≤ size ∧ size ≤ 5 ∧ Good size ms ∧ ms ≠ [] ∧ H p = some (.lst (nv ms)) ∧ p ≠ d ∧ DrawsAt H d ∧ ∀ x H' fm, SB d H H' → Sam size fm ms → FamAt H' CF x size fm → Q (.ref x) H'
theorem sc_law_family_of : FnScope ["_law_draws_here", "_law_size", "_law_masks", "_law_rows", "_law_row"] ["_law_draws_here", "_law_size", "_law_masks"] (defScope (top 66)) := ⟨rfl, rfl, rfl, by decide +kernel, rfl, by decide +kernel, by decide +kernel⟩
theorem c_law_family_of (F : FnP K "_law_family_of" (top 66) f fd) (g : mg "_law_family_of" = some (.ref f)) (B : Bi mg) (c_law_take : Cal P w K mg base 1 "_law_take" spTake []) (c_law_lots : Cal P w K mg base 2 "_law_lots" (spLots K) []) (m_FamilyA : Mak P w K mg base 5 "Family" CF (spFamA CF) []) : Cal P w K mg base 7 "_law_family_of" (spFamOf CF) [] := by
  refine mkCal F g sc_law_family_of (fun _ _ _ _ _ _ us hl => match us, hl with | [_, _, _], _ => rfl) (fun vs H Q E h => ?_) (fun cdv A outer s H vs Q E hr h => ?_)
  · obtain ⟨d, p, size, ms, rfl, _⟩ := h
    rfl
  · obtain ⟨d, p, size, ms, rfl, h1, h5, gd, hne, hp, hpd, hd, q⟩ := h
    have m_Family := m_FamilyA
    have hlen := good_len gd (by omega)
    have h64 := pow64 (n := size) (by omega)
    refine ⟨_, (pss_cons (ps_set (i := 3) sc_law_family_of.nd rfl (by first | exact Or.inl rfl | exact Or.inr rfl) (pe_c c_law_lots hr (by decide) rfl (pa_cons (pv 2) pa_nil))) (pss_cons (ps_if (pt_cmpR on_eq (pe_c c_law_take hr (by decide) rfl (pa_cons (pv 0) (pa_cons (pe_nat 2 pe_int) pa_nil))) (pe_nat 1 pe_int) (nomark _)) (pss_one (ps_ret (pe_mk m_Family hr (by decide) rfl (pa_cons (pv 1) (pa_cons (pe_lc (own := [("_law_row", 4)]) (g := gName 4) (by rfl) sc_law_family_of.nd (pi_list (pe_revK (K := K) rfl (pv 3))) (blkOk_by (own := [("_law_row", 4)]) (N := ["_law_draws_here", "_law_size", "_law_masks", "_law_rows", "_law_row"]) (sc := defScope (top 66)) (by decide +kernel)) (fun _ _ _ _ _ => (pg_name (i := 4) sc_law_family_of.nd rfl (by first | exact Or.inl rfl | exact Or.inr rfl))) (fun _ _ _ _ _ => pts_nil) (fun _ _ _ _ _ => (pe_revK (K := K) rfl (pe_callTy (cr_lstOfK (K := K) rfl) (by rfl) B.list (by decide +kernel) (pa_cons (pv 4) pa_nil))))) pa_nil))))) pss_nil) (pss_one (ps_ret (pe_mk m_Family hr (by decide) rfl (pa_cons (pv 1) (pa_cons (pe_callTy call_tuple_of (by rfl) B.tuple (by decide +kernel) (pa_cons (pv 3) pa_nil)) pa_nil))))))), ?_⟩
    refine ⟨.ref p, rfl, p, ms, rfl, sq_of hp, hlen, fun L l1 l2 r rs H1 hr1 e1 hr2 L1 => ?_⟩
    obtain ⟨bm, rfl, pm⟩ := perm_lots l1 (fun b hb => by have := gd.2 b hb; omega)
    have hrd := SB.ne hd hr1
    have d1 := hd.ex e1
    refine ⟨.ref d, rfl, d, 2, rfl, by decide, d1, fun x H2 hx s2 => ⟨_, _, rfl, rfl, _, rfl, ?_⟩⟩
    have s02 : SB d H H2 := (SB.of hd e1).trans s2
    have hr3 := s2.kp _ _ hrd hr2
    have L3 := L1.sb d1 s2
    have ndm : ms.Nodup := gd.1.imp fun h => by omega
    have iff : ∀ k, k ∈ bm ↔ k ∈ ms := fun k => pm.mem_iff
    have ndb : bm.Nodup := pm.nodup_iff.mpr ndm
    have hlb : bm.length ≤ 64 := by rw [pm.length_eq]; exact hlen
    have hS : ∃ k, k ∈ ms := List.exists_mem_of_ne_nil _ hne
    have fin : RetFam CF size (fun k => k ∈ ms) H2 Q := fun y H' fm hy e' nd hm up fa _ ok => q y H' fm (s02.ex e') ⟨ok, nd, up, gd, hm⟩ fa
    refine ite2 (fun hb => ?_) (fun hb => ?_)
    · refine mk_famA (ev_v 1) h1 h5 hS (fun k hk => gd.2 k hk) (fun H3 e3 Q3 q3 => ?_) fin
      refine el_flip (rs := rs.reverse) (ms := bm.reverse) (fun H4 e4 Q4 q4 => ?_) (by rw [List.length_reverse]; exact hlb) (fun _ => rfl) (fun _ => rfl) H3 (Ex.refl _) _ fun p4 us H4 e4 h4 P4 => q3 p4 us bm.reverse H4 e4 (.inl h4) P4 ((List.reverse_perm bm).nodup_iff.mpr ndb) (fun k => by rw [List.mem_reverse]; exact iff k)
      refine el_revV (xs := rs) (ev_v 3) (sq_of ((e3.trans e4) _ _ hr3)) H4 (Ex.refl _) _ fun p5 H5 hp5 e5 h5' => q4 p5 H5 e5 h5' ?_
      have L5 := L3.ex (e3.trans (e4.trans e5))
      refine ⟨by rw [List.length_reverse, L5.1]; simp, fun i r ns a b => ?_⟩
      rw [List.map_reverse] at b
      have hir := (List.getElem?_eq_some_iff.mp a).1
      rw [List.length_reverse] at hir
      have hib : i < (bm.map lotF).length := by rw [← L5.1]; exact hir
      rw [List.getElem?_reverse hir] at a
      rw [List.getElem?_reverse hib, ← L5.1] at b
      exact L5.2 _ r ns a b
    · refine mk_famA (ev_v 1) h1 h5 hS (fun k hk => gd.2 k hk) (fun H3 e3 Q3 q3 => ?_) fin
      refine ⟨.ref r, rfl, r, rs, rfl, .inl ⟨sq_of (e3 _ _ hr3), fun t ht => q3 t rs bm _ (Ex.new ht) (.inr upd_same) (((L3.ex e3).ex (Ex.new ht)).toP) ndb iff⟩⟩
end
end W7
end
section
namespace W7
open PySem PySem.Spec PyProof.Rows L2 L3 Evl
open C8 (Cal pe_c Mak pe_mk Met pe_mt pe_mt0)
theorem near_ne {A : List Nat} {t : Nat} (h : A ≠ []) : nearF A t ≠ [] := by
  obtain ⟨b, hb⟩ := lb_ex t h
  exact List.ne_nil_of_mem ((near_lb (k := b ^^^ t) h).mpr (by rw [back]; exact hb))
theorem near_bits {A : List Nat} {t : Nat} (h : A ≠ []) : bits ((nearF A t).getD 0 0 ^^^ t) = rkF A t := by
  have h1 := near_ne (t := t) h
  have h2 : (nearF A t).getD 0 0 ∈ nearF A t := by
    cases e : nearF A t with
    | nil => exact absurd e h1
    | cons a l => exact List.mem_cons_self
  exact of_decide_eq_true (List.mem_filter.mp h2).2
theorem without_none {b s : Nat} : decide (V.int (Builtin.bitAnd (b : Int) (Builtin.bitNot (s : Int))) = V.int 0) = decide (b &&& s = b) := by
  rw [and_not, decide_eq_decide, V.int.injEq]
  have := Nat.and_le_left (n := b) (m := s)
  omega
theorem any_take {ns : List Nat} {F : Nat → Bool} {i n : Nat} (hn : ns[i]? = some n) : (ns.take (i + 1)).all F = ((ns.take i).all F && F n) := by
  rw [List.take_add_one, hn, Option.toList_some, List.all_append]
  simp
theorem no_any {ns : List Nat} {F : Nat → Bool} : decide ((ns.filter F).length = 0) = !ns.any F := by
  induction ns with
  | nil => rfl
  | cons a l ih =>
    rw [List.filter_cons, List.any_cons]
    cases h : F a with
    | true => simp
    | false => simpa using ih
section
variable {K : PySem.W.Frag} {σ : L2.St} {H : Hp} {ta tb : TE} {tz : TS} {D : Ends}
/-- x = [[..], [..]] -/
theorem q_asgLL {i : Nat} {xs ys : List V} (ha : EvL ta σ H xs) (hb : ∀ H1, Ex H H1 → EvL tb σ H1 ys) (k : ∀ p r l H1, Ex H H1 → H1 p = some (.lst xs) → H1 r = some (.lst ys) → H1 l = some (.lst [.ref p, .ref r]) → tz D (σ.set i (some (.ref l))) H1) : tSeq (tAsg (tLst (tCons ta (tCons tb tNil))) (gName i)) tz D σ H :=
  ha H (Ex.refl H) _ fun p H1 hp e1 h1 => hb H1 e1 H1 (Ex.refl H1) _ fun r H2 hr e2 h2 => ⟨(by decide : 2 ≤ sizeLine), fun l hl => by
    have e3 := Ex.new (o := .lst [.ref p, .ref r]) hl
    exact k p r l _ (e1.trans (e2.trans e3)) (e3 _ _ (e2 _ _ h1)) (e3 _ _ h2) upd_same⟩
/-- [..] != [..], of naturals -/
theorem ev_neN {p r : Addr} {ns ms : List Nat} (ha : Ev ta σ H (.ref p)) (hb : Ev tb σ H (.ref r)) (h1 : SqL K H p (nv ns)) (h2 : SqL K H r (nv ms)) : Ev (tOp (rNeD K) ta tb) σ H (.bl (!decide (ns = ms))) := ev_op ha hb fun H1 e Q q => by
  refine ⟨.list _, .list _, .lst (ex_l e h1) (dp_nats ns), .lst (ex_l e h2) (dp_nats ms), PySem.W.shaped_ints _, PySem.W.shaped_ints _, ?_⟩
  have := dp_eqN ns ms
  rw [show PyData.eqv (.list ((ns.map fun n => ((n : Nat) : Int)).map PyData.int)) (.list ((ms.map fun n => ((n : Nat) : Int)).map PyData.int)) = decide (ns = ms) from this]
  exact q H1 (Ex.refl H1)
end
section
variable {P : Program} {w : World} {K : PySem.W.Frag} {mg : Str → Option Value} {base : Heap} {f : Addr} {fd : FuncData}
def spClAt (K : PySem.W.Frag) : Sp := fun vs H Q _ => ∃ (p r : Addr) (t : Nat) (A B : List Nat), vs = [.ref p, .ref r, .int t] ∧ SqL K H p (nv A) ∧ SqL K H r (nv B) ∧ A ≠ [] ∧ B ≠ [] ∧ A.length ≤ 64 ∧ B.length ≤ 64 ∧ RetV (.bl (clAt A B t)) H Q
def spLawClash (K : PySem.W.Frag) : Sp := fun vs H Q _ => ∃ (size : Nat) (p r : Addr) (A B : List Nat), vs = [.int size, .ref p, .ref r] ∧ size ≤ 5 ∧ SqL K H p (nv A) ∧ SqL K H r (nv B) ∧ A ≠ [] ∧ B ≠ [] ∧ A.length ≤ 64 ∧ B.length ≤ 64 ∧ (clashL size A B = none → RetV .non H Q) ∧ ∀ t, clashL size A B = some t → RetU (nv (lotF t)) H Q
end
end W7
end
section
namespace W7
open PySem PySem.Spec PyProof.Rows L2 L3 Evl
open C8 (Cal pe_c Mak pe_mk Met pe_mt pe_mt0)
theorem ones_lt {size k : Nat} (h : k ≤ size) : (1 <<< k) - 1 < 1 <<< size := by
  rw [Nat.one_shiftLeft, Nat.one_shiftLeft]
  have h1 := Nat.pow_le_pow_right (by decide : 0 < 2) h
  have := Nat.one_le_two_pow (n := k)
  omega
theorem ones_bits : ∀ k : Nat, k < 6 → bits ((1 <<< k) - 1) = k := by decide +kernel
theorem sized_ne {size k : Nat} (h5 : size ≤ 5) (h : k ≤ size) : sizedF size k k ≠ [] := by
  refine List.ne_nil_of_mem (a := (1 <<< k) - 1) (List.mem_filter.mpr ⟨List.mem_range.mpr (ones_lt h), ?_⟩)
  rw [ones_bits k (by omega)]
  simp
theorem turn_ne {ms M : List Nat} {t : Nat} (h : ms ≠ []) (p : M.Perm (ms.map fun m => m ^^^ t)) : M ≠ [] := fun e => by
  rw [e] at p
  have := p.length_eq
  rw [List.length_map] at this
  exact h (List.length_eq_zero_iff.mp this.symm)
/-- the lots at most one thing away -/
def nearD (size : Nat) (ms : List Nat) : List Nat := listF ((depF size ms).map fun n => decide (n ≤ 1))
theorem good_nearD {size : Nat} {ms : List Nat} : Good size (nearD size ms) := good_list (by unfold depF; simp)
theorem nearD_ne {size : Nat} {ms : List Nat} (gd : Good size ms) (hne : ms ≠ []) : nearD size ms ≠ [] := by
  obtain ⟨m, hm⟩ := List.exists_mem_of_ne_nil _ hne
  have hms := gd.2 m hm
  have h0 : rkF ms m = 0 := by
    have := rk_le (t := m) hm
    rw [Nat.xor_self] at this
    have : bits 0 = 0 := by decide
    omega
  refine List.ne_nil_of_mem (a := m) ?_
  unfold nearD listF
  rw [List.mem_filter, List.mem_range]
  have e : ((depF size ms).map fun n => decide (n ≤ 1))[m]? = some true := by
    unfold depF
    rw [List.getElem?_map, List.getElem?_map, List.getElem?_range hms]
    simp [h0]
  exact ⟨(List.getElem?_eq_some_iff.mp e).1, by rw [List.getD, e]; rfl⟩
section
variable {P : Program} {w : World} {K : PySem.W.Frag} {mg : Str → Option Value} {base : Heap} {f : Addr} {fd : FuncData}
def spPartner : Sp := fun vs H Q _ => ∃ (d p : Addr) (size : Nat) (ms : List Nat), vs = [.ref d, .int size, .ref p] ∧ 1 ≤ size ∧ size ≤ 5 ∧ Good size ms ∧ ms ≠ [] ∧ H p = some (.lst (nv ms)) ∧ p ≠ d ∧ DrawsAt H d ∧ ∀ gm r H', Good size gm → gm ≠ [] → r ≠ d → SB d H H' → H' r = some (.lst (nv gm)) → Q (.ref r) H'
end
end W7
end
section
namespace W7
open PySem PySem.Spec PyProof.Rows L2 L3 Evl
open C8 (Cal pe_c Mak pe_mk Met pe_mt pe_mt0)
/-! ### what a clash answers -/
def Due (H : Hp) (o : Option Nat) (v : V) : Prop := (o = none ∧ v = .non) ∨ ∃ t u, o = some t ∧ v = .ref u ∧ H u = some (.tup (nv (lotF t)))
theorem Due.ex {H H' : Hp} {o : Option Nat} {v : V} (h : Due H o v) (e : Ex H H') : Due H' o v := h.imp id fun ⟨t, u, a, b, c⟩ => ⟨t, u, a, b, e _ _ c⟩
theorem Due.sb {H H' : Hp} {d : Addr} {o : Option Nat} {v : V} (h : Due H o v) (D : DrawsAt H d) (s : SB d H H') : Due H' o v := h.imp id fun ⟨t, u, a, b, c⟩ => ⟨t, u, a, b, s.tup D c⟩
theorem Due.non {H : Hp} {o : Option Nat} {v : V} (h : Due H o v) : decide (v = .non) = decide (o = none) := by
  rcases h with ⟨rfl, rfl⟩ | ⟨t, u, rfl, rfl, _⟩
  · rfl
  · simp
theorem due_ret {H : Hp} {Q : VK} {o : Option Nat} (k : ∀ v H1, Ex H H1 → Due H1 o v → Q v H1) : (o = none → RetV .non H Q) ∧ ∀ t, o = some t → RetU (nv (lotF t)) H Q :=
  ⟨fun h H1 e => k _ H1 e (.inl ⟨h, rfl⟩), fun t h u H1 hu e h1 => k _ H1 e (.inr ⟨t, u, h, rfl, h1⟩)⟩
theorem em_bool (P : Prop) : ∃ b : Bool, b = true ↔ P := by
  by_cases h : P
  · exact ⟨true, by simp [h]⟩
  · exact ⟨false, by simp [h]⟩
section
variable {K : PySem.W.Frag} {σ : L2.St} {H : Hp} {ta tb te : TE} {CF : Addr}
theorem ne_due {x y : V} {o : Option Nat} {Q : VK} (h : Due H o x) (k : Due H o y) (q : Q (.bl false) H) : rNeD K x y H Q := by
  rcases h with ⟨rfl, rfl⟩ | ⟨t, u, rfl, rfl, h⟩
  · rcases k with ⟨_, rfl⟩ | ⟨t, u, k, _⟩
    · exact ⟨.none, .none, .non, .non, rfl, rfl, q⟩
    · cases k
  · rcases k with ⟨k, _⟩ | ⟨t', u', k, rfl, k2⟩
    · cases k
    · cases k
      refine ⟨rowD (lotF t), rowD (lotF t), .tup (st_of h) (dp_nats _), .tup (st_of k2) (dp_nats _), shaped_row _, shaped_row _, ?_⟩
      rw [eqv_self (shaped_row _)]
      exact q
theorem ev_clashNe {i j k : Nat} {a b : Addr} {size : Nat} {fm gm : List Nat} {o : Option Nat} {v : V} (hf : FamAt H CF a size fm) (ok : FamOk size fm) (hg : FamAt H CF b size gm) (okg : FamOk size gm) (ho : clashO size fm gm = o) (hv : Due H o v) (hi : σ[i]? = some (some (.ref a)) := by rfl) (hj : σ[j]? = some (some (.ref b)) := by rfl) (hk : σ[k]? = some (some v) := by rfl) :
    Ev (tOp (rNeD K) (tCall (spClash CF RetClash) [] C8.E0 (tCons (tVar i) (tCons (tVar j) tNil))) (tVar k)) σ H (.bl false) := fun H1 e Q q => by
  subst ho
  exact ⟨_, hi, _, hj, a, b, size, fm, gm, rfl, hf.ex e, ok, hg.ex e, okg, due_ret fun x H2 e2 dx => ⟨_, hk, ne_due dx (hv.ex (e.trans e2)) (q H2 e2)⟩⟩
theorem xor_fam {i : Nat} {a : Addr} {size t : Nat} {fm : List Nat} {Q : VK} (hf : FamAt H CF a size fm) (ok : FamOk size fm) (nd : fm.Nodup) (ht : t < 1 <<< size) (hb : ∀ Q' : VK, (∀ p H2, Ex H H2 → LotA H2 p (lotF t) → Q' (.ref p) H2) → tb σ H Q') (q : RetFam CF size (fun k => ∃ m ∈ fm, k = m ^^^ t) H Q) (hi : σ[i]? = some (some (.ref a)) := by rfl) : tOp (rXorI K CF (spXorF CF)) (tVar i) tb σ H Q :=
  ⟨_, hi, hb _ fun p H2 e2 hp => by
    obtain ⟨dx, fs, tl, rs, h1, h2, h3, h4, h5, h6⟩ := id (hf.ex e2)
    exact ⟨a, dx, fs, p, nv (lotF t), rfl, rfl, h1, hp.imp sq_of st_of, a, p, size, fm, t, rfl, hf.ex e2, ok, nd, ht, hp, q.ex e2⟩⟩
theorem ev_brk {i j : Nat} {size : Nat} {p : Addr} {ms : List Nat} {b : Bool} (hb : b = true ↔ GatedP size ms) (hz : size ≤ 6) (gd : ∀ m ∈ ms, m < 1 <<< size) (hp : SqL K H p (nv ms)) (hi : σ[i]? = some (some (.int (size : Nat))) := by rfl) (hj : σ[j]? = some (some (.ref p)) := by rfl) :
    Ev (tOp (rN0 fun a b => .bl (decide (a = b))) (tCB (rLenS K) (tCons (tCall (spBreaks K) [] C8.E0 (tCons (tVar i) (tCons (tVar j) tNil))) tNil)) (tC (.int ((0 : Nat) : Int)))) σ H (.bl b) := fun H1 e Q q => ⟨_, hi, _, hj, size, p, ms, rfl, ex_l e hp, hz, gd, fun hg l H2 hl e2 h2 => by
  rw [hb.mpr hg] at q
  exact ⟨l, [], rfl, .inl (sq_of h2), 0, 0, rfl, rfl, q H2 e2⟩, fun hg x y z l H2 hl e2 h2 => by
  have hb2 : b = false := by
    cases b with
    | false => rfl
    | true => exact absurd (hb.mp rfl) hg
  rw [hb2] at q
  exact ⟨l, [x, y, z], rfl, .inl (sq_of h2), 3, 0, rfl, rfl, q H2 e2⟩⟩
theorem ev_gated {i : Nat} {a : Addr} {size : Nat} {fm : List Nat} {b : Bool} (hf : FamAt H CF a size fm) (ok : FamOk size fm) (hb : b = true ↔ RowsOk size fm) (hi : σ[i]? = some (some (.ref a)) := by rfl) : Ev (tCall (spIsGated CF) [] C8.E0 (tCons (tVar i) tNil)) σ H (.bl b) :=
  ev_call (ea_cons (ev_var hi) ea_nil) fun H2 e2 Q2 q2 E2 => ⟨a, size, fm, b, rfl, hf.ex e2, ok, hb, q2⟩
/-- f.lots != tuple(_law_lots(ms)), ms the masks of f -/
theorem ev_lotsNe {i j : Nat} {a p : Addr} {size : Nat} {fm ms : List Nat} (C : FC K CF) (hf : FamAt H CF a size fm) (up : (fm.map lotF).Pairwise lexLe) (pm : fm.Perm ms) (hp : SqL K H p (nv ms)) (hz : ms.length ≤ 64) (hi : σ[i]? = some (some (.ref a)) := by rfl) (hj : σ[j]? = some (some (.ref p)) := by rfl) :
    Ev (tOp (rNeD K) (tFld K (tVar i) "lots") (tCB (rTupOf K) (tCons (tCall (spLots K) [] C8.E0 (tCons (tVar j) tNil)) tNil))) σ H (.bl false) :=
  ev_neLots (r := .non) (s := .non) (L := fm.map lotF) fun H1 e Q q => by
    obtain ⟨dx, fs, tl, rs, h1, h2, h3, h4, h5, h6⟩ := id (hf.ex e)
    refine ev_fld (ev_var hi) h1 C.cls C.a2 h3 H1 (Ex.refl _) _ fun H2 e2 => ⟨_, hj, p, ms, rfl, ex_l (e.trans e2) hp, hz, fun L l1 l2 l us H3 hl e3 h3' L3 => ⟨l, us, rfl, .inl ⟨sq_of h3', fun u hu => ?_⟩⟩⟩
    have eL : L = fm.map lotF := lots_eq (l1.trans (pm.map _).symm) l2 up
    rw [eL] at L3
    have eu := Ex.new (o := .tup us) hu
    exact q tl u rs us _ (e2.trans (e3.trans eu)) (.inl ⟨eu _ _ (e3 _ _ (e2 _ _ h5)), upd_same⟩) (h6.ex (e2.trans (e3.trans eu))) (L3.ex eu)
end
end W7
end
section
namespace W7
open PySem PySem.Spec PyProof.Rows L2 L3 Evl ClX
open C8 (Cal pe_c Mak pe_mk Met pe_mt pe_mt0)
section
variable {K : PySem.W.Frag} {σ : L2.St} {H : Hp} {te : TE}
theorem ev_xf {a d C : Addr} {f : Str} {fs : List (Str × V)} {v : V} (h : Ev te σ H (.ref a)) (hd : H d = some (.xd fs)) (hl : fs.lookup f = some v) : Ev (tXf a (.ref C) (some d) C f te) σ H v := fun H1 e Q q => h H1 e _ fun H2 e2 => ⟨rfl, rfl, d, fs, v, rfl, (e.trans e2) _ _ hd, hl, q H2 e2⟩
theorem ev_isE {a d C L : Addr} {fs : List (Str × V)} {ta : TA} (h : EvA ta σ H [.ref a, .ref L]) (hd : H d = some (.xd fs)) (ec : ExcC K C) (kit : PySem.W.kitOne K (.ref C) (.ref L) = some true) : Ev (tCB (rIsEd K a (.ref C) (some d)) ta) σ H (.bl true) := ev_cb h fun H1 e Q q => ⟨C, d, fs, .ref L, .ref L, true, rfl, rfl, ec, rfl, e _ _ hd, fun u r => r, kit, q H1 (Ex.refl _)⟩
/-- two rows of lots that are alike -/
theorem eq_lots {p q : Addr} {rs ss : List V} {L : List (List Nat)} {Q : VK} (h1 : H p = some (.tup rs)) (h2 : H q = some (.tup ss)) (l1 : Lots H rs L) (l2 : Lots H ss L) (k : Q (.bl true) H) : rEqD K (.ref p) (.ref q) H Q := by
  refine ⟨_, _, .tup (st_of h1) (dp_lots l1), .tup (st_of h2) (dp_lots l2), (shaped_lots L).1, (shaped_lots L).1, ?_⟩
  rw [eqv_self (shaped_lots L).1]
  exact k
theorem ev_lotsEq7 {i j : Nat} {CF a p : Addr} {size : Nat} {fm ms : List Nat} (C : FC K CF) (hf : FamAt H CF a size fm) (up : (fm.map lotF).Pairwise lexLe) (pm : fm.Perm ms) (hp : SqL K H p (nv ms)) (hz : ms.length ≤ 64) (hi : σ[i]? = some (some (.ref a)) := by rfl) (hj : σ[j]? = some (some (.ref p)) := by rfl) :
    Ev (tOp (rEqD K) (tFld K (tVar i) "lots") (tCB (rTupOf K) (tCons (tCall (spLots K) [] C8.E0 (tCons (tVar j) tNil)) tNil))) σ H (.bl true) := fun H1 e Q q => by
  obtain ⟨dx, fs, tl, rs, h1, h2, h3, h4, h5, h6⟩ := id (hf.ex e)
  refine ev_fld (ev_var hi) h1 C.cls C.a2 h3 H1 (Ex.refl _) _ fun H2 e2 => ⟨_, hj, p, ms, rfl, ex_l (e.trans e2) hp, hz, fun L l1 l2 l us H3 hl e3 h3' L3 => ⟨l, us, rfl, .inl ⟨sq_of h3', fun u hu => ?_⟩⟩⟩
  have eL : L = fm.map lotF := lots_eq (l1.trans (pm.map _).symm) l2 up
  rw [eL] at L3
  have eu := Ex.new (o := .tup us) hu
  exact eq_lots (eu _ _ (e3 _ _ (e2 _ _ h5))) upd_same (h6.ex (e2.trans (e3.trans eu))) (L3.ex eu) (q _ (e2.trans (e3.trans eu)))
end
section
variable {P : Program} {w : World} {K : PySem.W.Frag} {mg : Str → Option Value} {base : Heap} {f : Addr} {fd : FuncData} {CF CN CL : Addr}
theorem q_chkA {σ : L2.St} {H : Hp} {ta : TA} {g : TG} {vs : List V} {sp : Sp} {E : L2.St → XK} {D : Ends} (h : EvA ta σ H vs) (k : ∀ H1, Ex H H1 → ∀ Q : VK, sp vs H1 Q (E σ)) : tAsg (tCallS sp E ta) g D σ H := h H (Ex.refl _) _ fun H1 e1 => k H1 e1 _
/-- what the law's script hands to within and just_at, and what comes back -/
def spLawRef (CF : Addr) : Sp := fun vs H Q _ => ∃ (wd a size : Nat) (fm : List Nat) (v : V), vs = [.int wd, .ref a, v] ∧ FamAt H CF a size fm ∧ FamOk size fm ∧ ((wd = 0 ∧ (BadV H v ∨ ∃ i, v = .int i ∧ i < 0)) ∨ (wd = 1 ∧ (BadV H v ∨ ∃ i, v = .int i ∧ (i < 0 ∨ (size : Int) < i)))) ∧ RetL [.str "number", .bl true] H Q
theorem sc_law_refused : FnScope ["_law_word", "_law_family_here", "_law_number_here", "_law_told", "raised"] ["_law_word", "_law_family_here", "_law_number_here"] (defScope (top 67)) := ⟨rfl, rfl, rfl, by decide +kernel, rfl, by decide +kernel, by decide +kernel⟩
theorem c_law_refused (x_BadNumber : Xc.ErrC K mg "BadNumber" "name" CN) (hL : mg "LotsError" = some (.ref CL)) (kit : PySem.W.kitOne K (.ref CN) (.ref CL) = some true) (F : FnP K "_law_refused" (top 67) f fd) (g : mg "_law_refused" = some (.ref f)) (B : Bi mg) (c_within : CalE P w K mg base 7 "within" (spWithin CF CN)) (c_just_at : CalE P w K mg base 7 "just_at" (spJust CF CN)) : Cal P w K mg base 8 "_law_refused" (spLawRef CF) [] := by
  refine mkCal F g sc_law_refused (fun _ _ _ _ _ _ us hl => match us, hl with | [_, _, _], _ => rfl) (fun vs H Q E h => ?_) (fun cdv A outer s H vs Q E hr h => ?_)
  · obtain ⟨wd, a, size, fm, v, rfl, _⟩ := h
    rfl
  · obtain ⟨wd, a, size, fm, v, rfl, hf, ok, h, q⟩ := h
    refine ⟨_, (pss_cons (ps_set (i := 3) sc_law_refused.nd rfl (by first | exact Or.inl rfl | exact Or.inr rfl) pe_non) (pss_cons (ps_try_as (i := 4) rfl rfl sc_law_refused.nd rfl rfl ⟨rfl, by decide, .inl x_BadNumber.here⟩ takes0 (fun W pn xe tk _ => (pss_one (ps_if (pt_cmpR on_eq (pv 0) (pe_nat 0 pe_int) (nomark _)) (pss_one (ps_set (i := 3) sc_law_refused.nd rfl (by first | exact Or.inl rfl | exact Or.inr rfl) (pe_cE c_within hr (by decide) rfl tk (pa_cons (pv 1) (pa_cons (pv 2) pa_nil))))) (pss_one (ps_set (i := 3) sc_law_refused.nd rfl (by first | exact Or.inl rfl | exact Or.inr rfl) (pe_cE c_just_at hr (by decide) rfl tk (pa_cons (pv 1) (pa_cons (pv 2) pa_nil)))))))) (fun a oe cls d pn hz hf => (pss_one (ps_set (i := 3) sc_law_refused.nd rfl (by first | exact Or.inl rfl | exact Or.inr rfl) (pe_lst (pa_cons (pe_xf x_BadNumber.xf x_BadNumber.bare hz hf (pv 4)) (pa_cons (pe_callB (call_isEd hz hf) (by rfl) B.isinstance (by decide +kernel) (pa_cons (pv 4) (pa_cons (C8.pe_gc (v := .ref CL) rfl ⟨.ref CL, hL, rfl⟩) pa_nil))) pa_nil))))))) (pss_one (ps_ret (pv 3))))), ?_⟩
    refine q_asg ev_c fun H1 e1 => ?_
    have suite : ∀ H2 d (D : Ends), Ex H H2 → H2 d = some (errD "name" (.str "number")) → (∀ p H3, H p = none → Ex H H3 → H3 p = some (.lst [.str "number", .bl true]) → ∀ a0, D.nx [some (.int (wd : Nat)), some (.ref a), some v, some (.ref p), some (.ref a0)] H3) → ∀ a0, tAsg (tLst (tCons (tXf a0 (.ref CN) (some d) CN "name" (tVar 4)) (tCons (tCB (rIsEd K a0 (.ref CN) (some d)) (tCons (tVar 4) (tCons (tC (.ref CL)) tNil))) tNil))) (gName 3) D [some (.int (wd : Nat)), some (.ref a), some v, some .non, some (.ref a0)] H2 := fun H2 d D e2 hd k a0 =>
      s_asgL (el_lst (ea_cons (ev_xf (ev_v 4) hd rfl) (ea_cons (ev_isE (ea_cons (ev_v 4) (ea_cons ev_c ea_nil)) hd x_BadNumber.ec kit) ea_nil)) (by decide)) fun p H3 hp e3 h3 => k p H3 (fresh_back e2 hp) (e2.trans e3) h3 a0
    have over : ∀ H2 d (D : Ends), Ex H H2 → H2 d = some (errD "name" (.str "number")) → (∀ p H3, H p = none → Ex H H3 → H3 p = some (.lst [.str "number", .bl true]) → D.nx [some (.int (wd : Nat)), some (.ref a), some v, some (.ref p), none] H3) →
        wAs K (.ref CN) 4 (fun a0 cls d => tAsg (tLst (tCons (tXf a0 cls d CN "name" (tVar 4)) (tCons (tCB (rIsEd K a0 cls d) (tCons (tVar 4) (tCons (tC (.ref CL)) tNil))) tNil))) (gName 3)) (fun _ _ _ _ => False) D (.ref CN) (some d) [some (.int (wd : Nat)), some (.ref a), some v, some .non, none] H2 := fun H2 d D e2 hd k =>
      ⟨true, x_BadNumber.te, fun _ a0 _ => suite H2 d _ e2 hd (fun p H3 hp e3 h3 a1 => k p H3 hp e3 h3) a0, fun z => by cases z⟩
    have last : ∀ (D : Ends) p H3, H p = none → Ex H H3 → H3 p = some (.lst [.str "number", .bl true]) → D.rt = Q → tRet (tVar 3) D [some (.int (wd : Nat)), some (.ref a), some v, some (.ref p), none] H3 := fun D p H3 hp e3 h3 er => s_ret (ev_v 3) fun H4 e4 => er ▸ q p H4 hp (e3.trans e4) (e4 _ _ h3)
    rcases h with ⟨rfl, bad⟩ | ⟨rfl, bad⟩
    · refine s_if (b := decide (0 = 0)) (et_test (ev_n (ev_v 0) ev_c)) (fun _ H2 e2 => ?_) (fun hb => by simp at hb)
      refine q_chkA (ea_cons (ev_v 1) (ea_cons (ev_v 2) ea_nil)) fun H3 e3 Q3 => ⟨a, v, rfl, .inr ⟨bad.imp (fun b => b.ex (e1.trans (e2.trans e3))) id, fun d H4 e4 hd => over H4 d _ (e1.trans (e2.trans (e3.trans e4))) hd fun p H5 hp e5 h5 => last _ p H5 hp e5 h5 rfl⟩⟩
    · refine s_if (b := decide (1 = 0)) (et_test (ev_n (ev_v 0) ev_c)) (fun hb => by simp at hb) (fun _ H2 e2 => ?_)
      refine q_chkA (ea_cons (ev_v 1) (ea_cons (ev_v 2) ea_nil)) fun H3 e3 Q3 => ⟨a, v, size, fm, rfl, hf.ex (e1.trans (e2.trans e3)), ok, .inr ⟨bad.imp (fun b => b.ex (e1.trans (e2.trans e3))) id, fun d H4 e4 hd => over H4 d _ (e1.trans (e2.trans (e3.trans e4))) hd fun p H5 hp e5 h5 => last _ p H5 hp e5 h5 rfl⟩⟩
def spLawIs (CF : Addr) : Sp := fun vs H Q _ => ∃ (a p size : Nat) (fm ms : List Nat), vs = [.ref a, .int size, .ref p] ∧ FamAt H CF a size fm ∧ (fm.map lotF).Pairwise lexLe ∧ fm.Perm ms ∧ SqL K H p (nv ms) ∧ ms.length ≤ 64 ∧ RetV (.bl true) H Q
theorem sc_law_is : FnScope ["_law_told", "_law_size", "_law_masks"] ["_law_told", "_law_size", "_law_masks"] (defScope (top 68)) := ⟨rfl, rfl, rfl, by decide +kernel, rfl, by decide +kernel, by decide +kernel⟩
theorem c_law_is (C : FC K CF) (ic : C8.InsC K CF) (hm : mg "Family" = some (.ref CF)) (F : FnP K "_law_is" (top 68) f fd) (g : mg "_law_is" = some (.ref f)) (B : Bi mg) (c_law_lots : Cal P w K mg base 2 "_law_lots" (spLots K) []) : Cal P w K mg base 3 "_law_is" (spLawIs (K := K) CF) [] := by
  refine mkCal F g sc_law_is (fun _ _ _ _ _ _ us hl => match us, hl with | [_, _, _], _ => rfl) (fun vs H Q E h => ?_) (fun cdv A outer s H vs Q E hr h => ?_)
  · obtain ⟨a, p, size, fm, ms, rfl, _⟩ := h
    rfl
  · obtain ⟨a, p, size, fm, ms, rfl, hf, up, pm, hp, hz, q⟩ := h
    refine ⟨_, (pss_one (ps_ret (pe_and (pe_callB (C8.call_isC ic) (by rfl) B.isinstance (by decide +kernel) (pa_cons (pv 0) (pa_cons (C8.pe_gc (v := .ref CF) rfl ⟨.ref CF, hm, rfl⟩) pa_nil))) (pe_and (pe_cmpR on_eq (pe_fld (pv 0) rfl) (pv 1) (nomark _)) (pe_one (pe_cmpR (op_eqD hr.units) (pe_fld (pv 0) rfl) (pe_callTy call_tuple_of (by rfl) B.tuple (by decide +kernel) (pa_cons (pe_c c_law_lots hr (by decide) rfl (pa_cons (pv 2) pa_nil)) pa_nil)) (nomark _))))))), ?_⟩
    refine s_ret (ev_andV (a := true) (b := true && true) (ev_cb (ea_cons (ev_v 0) (ea_cons ev_c ea_nil)) fun H1 e Q q => ?_) fun _ => ev_andV (a := true) (b := true) (ev_is (ev_n (g := fun a b => .bl (decide (a = b))) (ev_size hf C (ev_v 0)) (ev_v 1)) (by simp)) fun _ => ev_lotsEq7 C hf up pm hp hz) q
    obtain ⟨dx, fs, _, _, h1, _⟩ := hf.ex e
    exact ⟨a, dx, fs, rfl, h1, q H1 (Ex.refl _)⟩
end
end W7
end
section
namespace W7
open PySem PySem.Spec PyProof.Rows L2 L3 Evl
/-! t[::-1], t a tuple by its name -/
section
variable {prog : Program} {w : World} {A : Around} {E : Value → Shared → Prop} {s : Shared}
theorem back_places (n : Nat) : Builtin.Slice.sliceAdjust none none (-1) (n : Int) = ((n : Int) - 1, -1) ∧ Builtin.Slice.slicePlaces ((n : Int) - 1) (-1) (-1) = n := by
  refine ⟨rfl, ?_⟩
  delta Builtin.Slice.slicePlaces
  rw [if_neg (by decide)]
  by_cases h : 0 < n
  · rw [if_pos (by omega)]
    have : ((n : Int) - 1 - -1 - 1) / (- -1) = (n : Int) - 1 := by
      rw [show (- -1 : Int) = 1 from rfl, Int.ediv_one]
      omega
    rw [this]
    omega
  · rw [if_neg (by omega)]
    have : n = 0 := by omega
    subst this
    rfl
theorem fm_congr {α β : Type} {f g : α → Option β} : ∀ l : List α, (∀ a ∈ l, f a = g a) → l.filterMap f = l.filterMap g
  | [], _ => rfl
  | a :: l, h => by
    rw [List.filterMap_cons, List.filterMap_cons, h a List.mem_cons_self, fm_congr l fun b hb => h b (List.mem_cons_of_mem _ hb)]
theorem back_items (xs : Array Value) : ((List.range xs.size).filterMap fun (k : Nat) => xs[(((xs.size : Int) - 1) + (k : Int) * (-1)).toNat]?) = xs.toList.reverse := by
  have e : ((List.range xs.size).filterMap fun (k : Nat) => xs[(((xs.size : Int) - 1) + (k : Int) * (-1)).toNat]?) = (List.range xs.toList.reverse.length).filterMap fun k => xs.toList.reverse[k]? := by
    rw [List.length_reverse, Array.length_toList]
    refine fm_congr _ fun k hk => ?_
    have hk := List.mem_range.mp hk
    rw [List.getElem?_reverse (by rw [Array.length_toList]; exact hk), Array.getElem?_toList, Array.length_toList]
    congr 1
    omega
  rw [e]
  generalize xs.toList.reverse = l
  induction l with
  | nil => rfl
  | cons a l ih =>
    rw [List.length_cons, List.range_succ_eq_map, List.filterMap_cons]
    simp only [List.getElem?_cons_zero, List.filterMap_map]
    rw [show ((fun k => (a :: l)[k]?) ∘ Nat.succ) = fun k => l[k]? from funext fun k => List.getElem?_cons_succ, ih]
theorem back_tuple {t sl : Addr} {items : Array Value} {u : Tok} : Meets (Builtin.«tuple.__getitem__» ⟨[.ref t, .ref sl], []⟩) (fun _ R s => IsTup s.heap t items ∧ s.heap.IsSliceOf sl .none .none (.int (-1) u) ∧ items.size ≤ sizeLine ∧ R (.ok (.ret (.ref s.heap.objs.size))) { s with heap := s.heap.push { cls := .type "tuple", data := .seq items.toList.reverse.toArray } }) := by
  intro prog w A R s ⟨ht, hs, hz, h⟩
  obtain ⟨o, o1, o2, o3⟩ := id hs
  have sa : slotArgs "__getitem__" 1 { pos := [Value.ref t, Value.ref sl] } = pure (Value.ref t, [Value.ref sl]) := by rfl
  delta Builtin.«tuple.__getitem__»
  rw [sa]
  refine wpAny_bind (wpAny_pure (wpAny_bind (tupleItemsOf_ ht (wpAny_bind (wpAny_typeOf_ref o1 ?_)))))
  rw [if_pos (by rw [o2]; rfl)]
  have app : wpAny (model prog w) A.in1 (Builtin.Slice.sliceApplied (.ref sl) (pure (items.size : Int))) (fun r s' => r = ((items.size : Int) - 1, -1, items.size) ∧ s' = s) (fun e s' => R (.error e) s') s := by
    delta Builtin.Slice.sliceApplied
    delta Builtin.Slice.sliceFields
    refine wpAny_bind (wpAny_bind (wpAny_field o1 o3 rfl (wpAny_bind (wpAny_field o1 o3 rfl (wpAny_bind (wpAny_field o1 o3 rfl (wpAny_pure (wpAny_bind (slicePart_int ?_)))))))))
    have places := back_places items.size
    show wpAny (model prog w) A.in1 (if ((-1 : Int) == 0) = true then _ else _) _ _ s
    rw [if_neg (by decide)]
    refine wpAny_bind (slicePart_none (wpAny_bind (slicePart_none (wpAny_bind (wpAny_pure ?_)))))
    show wpAny (model prog w) A.in1 (match Builtin.Slice.sliceAdjust none none (-1) (items.size : Int) with | (lo, hi) => pure (lo, -1, Builtin.Slice.slicePlaces lo hi (-1))) _ _ s
    rw [places.1]
    refine wpAny_pure ⟨?_, rfl⟩
    rw [places.2]
  refine wpAny_bind (wpAny_mono app (fun r s' z => ?_) fun _ _ e => e)
  obtain ⟨rfl, rfl⟩ := z
  dsimp only
  rw [if_neg (by simp)]
  rw [back_items]
  delta Builtin.Tuple.tupleExact
  exact wpAny_bind (wpAny_newObj_type (wpAny_pure h) (by
    show items.toList.reverse.toArray.size ≤ sizeLine
    simpa using hz))
end
section
variable {X : Cx} {K : PySem.W.Frag}
/-- t[::-1] of a tuple -/
def tRevT (K : PySem.W.Frag) (te : TE) : TE := fun σ H Q => te σ H fun x H1 => ∃ a xs, x = .ref a ∧ SqT K H1 a xs ∧ ∀ p, H1 p = none → Q (.ref p) (upd H1 p (.tup xs.reverse))
theorem pe_revT {x : PySem.Str} {p0 : Pos} {te : TE} {k : Nat} {p1 p2 p3 pos : Pos} (he : PE X (.Name x p0) te) : PE X (.Subscript (.Name x p0) (.Slice none none (some (.UnaryOp .USub (.Constant (.int 1) k p1) p2)) p3) pos) (tRevT X.K te) := by
  refine ⟨fun pins s σ H Q I h => ?_⟩
  refine wpAny_Subscript_Slice_step RT.get_tuple (wpAny_mono (he.run pins s σ H _ I h) (fun o s1 z => ?_) fun _ _ e => e)
  obtain ⟨v, H1, I1, rv, a, xs, rfl, hs, q⟩ := z
  obtain rfl : o = .ref a := rv
  refine wpAny_Slice (wpAny_evalPart_none (wpAny_evalPart_none (wpAny_evalPart_some ?_)))
  have minus : tUn (rU fun i => V.int (-i)) (tC (.int 1)) σ H1 (fun v H' => v = .int (-1) ∧ H' = H1) := ⟨1, rfl, rfl, rfl⟩
  have one := (pe_un (pos := p2) un_neg (pe_int (X := X) (i := 1) (j := k) (pos := p1))).run pins s1 σ H1 _ I1 minus
  refine wpAny_mono one (fun u s2 z => ?_) fun _ _ e => e
  obtain ⟨v, H2, I2, rv2, rfl, rfl⟩ := z
  obtain ⟨tk, rfl⟩ : ∃ tk, u = .int (-1) tk := rv2
  have I3 : Inv X pins σ H2 { s2 with heap := s2.heap.push { cls := .type "slice", data := .fields #[.none, .none, .int (-1) tk] } } := I2.kept fun b o e => Heap.get?_push_of_some _ e
  have new := Heap.IsSliceOf.new s2.heap .none .none (.int (-1) tk)
  generalize s2.heap.push { cls := .type "slice", data := .fields #[.none, .none, .int (-1) tk] } = h3 at I3 new
  obtain ⟨its, vals, tup, few⟩ := I3.tuple hs
  have many : its.toArray.size ≤ sizeLine := by
    have : xs.length = its.length := L2.Vals.length vals
    simp only [List.size_toArray]
    omega
  refine ⟨RT.IsTup.typeOf' tup, getItem_meets (RT.IsTup.typeOf' tup) (by decide) slot_tuple_getitem entry_tuple_getitem (args_tuple_getitem _ _) back_tuple ⟨tup, new, many, ?_⟩⟩
  refine ⟨.ref h3.objs.size, upd H2 h3.objs.size (.tup xs.reverse), I3.laid (fun b o e => Heap.get?_push_of_some _ e) (Nat.le_refl _) ⟨by rw [List.length_reverse]; exact few, its.reverse, vals.reverse, _, Heap.get?_push_size h3 rfl, rfl, 0, by simp⟩, rfl, q _ I3.fresh⟩
theorem pe_revTK {x : PySem.Str} {p0 : Pos} {te : TE} {k : Nat} {p1 p2 p3 pos : Pos} (hK : X.K = K) (he : PE X (.Name x p0) te) : PE X (.Subscript (.Name x p0) (.Slice none none (some (.UnaryOp .USub (.Constant (.int 1) k p1) p2)) p3) pos) (tRevT K te) := hK ▸ pe_revT he
end
section
variable {K : PySem.W.Frag} {σ : L2.St} {H : Hp} {te : TE}
theorem eu_revT {a : Addr} {xs : List V} (h : Ev te σ H (.ref a)) (hx : SqT K H a xs) : EvU (tRevT K te) σ H xs.reverse := fun H1 e Q q => h H1 e _ fun H2 e2 => ⟨a, xs, rfl, ex_t (e.trans e2) hx, fun l hl => q l _ (fresh_back e2 hl) (e2.trans (Ex.new hl)) upd_same⟩
end
end W7
end
section
namespace W7
open PySem PySem.Spec PyProof.Rows L2 L3 Evl ClX
open C8 (Cal pe_c Mak pe_mk Met pe_mt pe_mt0)
section
variable {X : Cx}
theorem pe_revTE {e : Expr} {te : TE} {k : Nat} {K : PySem.W.Frag} {p1 p2 p3 pos : Pos} (hK : X.K = K) (he : PE X e te) : PE X (.Subscript e (.Slice none none (some (.UnaryOp .USub (.Constant (.int 1) k p1) p2)) p3) pos) (tRevT K te) := by
  subst hK
  refine ⟨fun pins s σ H Q I h => ?_⟩
  refine Subscript_ (wpAny_mono (he.run pins s σ H _ I h) (fun o s1 z => ?_) fun _ _ e => e)
  obtain ⟨v, H1, I1, rv, a, xs, rfl, hs, q⟩ := z
  obtain rfl : o = .ref a := rv
  refine wpAny_Slice (wpAny_evalPart_none (wpAny_evalPart_none (wpAny_evalPart_some ?_)))
  have minus : tUn (rU fun i => V.int (-i)) (tC (.int 1)) σ H1 (fun v H' => v = .int (-1) ∧ H' = H1) := ⟨1, rfl, rfl, rfl⟩
  have one := (pe_un (pos := p2) un_neg (pe_int (X := X) (i := 1) (j := k) (pos := p1))).run pins s1 σ H1 _ I1 minus
  refine wpAny_mono one (fun u s2 z => ?_) fun _ _ e => e
  obtain ⟨v, H2, I2, rv2, rfl, rfl⟩ := z
  obtain ⟨tk, rfl⟩ : ∃ tk, u = .int (-1) tk := rv2
  have I3 : Inv X pins σ H2 { s2 with heap := s2.heap.push { cls := .type "slice", data := .fields #[.none, .none, .int (-1) tk] } } := I2.kept fun b o e => Heap.get?_push_of_some _ e
  have new := Heap.IsSliceOf.new s2.heap .none .none (.int (-1) tk)
  obtain ⟨its, vals, tup, few⟩ := I3.tuple hs
  have many : its.toArray.size ≤ sizeLine := by
    have : xs.length = its.length := L2.Vals.length vals
    simp only [List.size_toArray]
    omega
  refine tail_any (ops := [.ref a, .ref s2.heap.objs.size]) (RT.IsTup.typeOf' tup) RT.get_tuple ?_ (by with_unfolding_all rfl)
  refine getItem_meets (RT.IsTup.typeOf' tup) (by decide) slot_tuple_getitem entry_tuple_getitem (args_tuple_getitem _ _) back_tuple ⟨tup, new, many, ?_⟩
  refine ⟨.ref (s2.heap.push { cls := .type "slice", data := .fields #[.none, .none, .int (-1) tk] }).objs.size, upd H2 (s2.heap.push { cls := .type "slice", data := .fields #[.none, .none, .int (-1) tk] }).objs.size (.tup xs.reverse), I3.laid (fun b o e => Heap.get?_push_of_some _ e) (Nat.le_refl _) ⟨by rw [List.length_reverse]; exact few, its.reverse, vals.reverse, _, Heap.get?_push_size _ rfl, rfl, 0, by simp⟩, rfl, q _ I3.fresh⟩
end
section
variable {P : Program} {w : World} {K : PySem.W.Frag} {mg : Str → Option Value} {base : Heap} {f : Addr} {fd : FuncData} {CF CN CL : Addr}
def spDepthP (CF : Addr) : Sp := fun vs H Q _ => ∃ (a p : Addr) (size : Nat) (fm : List Nat) (t : Nat), vs = [.ref a, .ref p] ∧ FamAt H CF a size fm ∧ FamOk size fm ∧ t < 1 <<< size ∧ (∃ ns, ns.Perm (lotF t) ∧ LotA H p ns) ∧ RetV (.int (mn (fm.map fun m => bits (m ^^^ t)) : Nat)) H Q
theorem m_depthP (C : FC K CF) (me : Meth K CF "depth" f) (F : FunD K "depth" "Family.depth" (defArgs (inClass (top 30) 16)) (defBody (inClass (top 30) 16)) (defScope (inClass (top 30) 16)) [] [] f fd) (B : Bi mg) (c_lot_ofP : Cal P w K mg base 3 "lot_of" spLotOfP []) : Met P w K mg base 4 CF "depth" (spDepthP CF) [] := by
  refine mkMet C.cls me F sc_Family_depth (fun _ _ _ _ _ _ us hl => match us, hl with | [_, _], _ => rfl) (fun vs H Q E h => ?_) (fun cdv A outer s H vs Q E hr h => ?_)
  · obtain ⟨a, p, size, fm, t, rfl, _⟩ := h
    rfl
  · obtain ⟨a, p, size, fm, t, rfl, hf, ok, ht, ⟨us, pm, hp⟩, q⟩ := h
    have c_lot_of := c_lot_ofP
    have hz := ok.s5
    have lo := lot_ok ht (by omega)
    have hne2 : fm.map (fun n => bits (n ^^^ t)) ≠ [] := by simpa using ok.ne
    refine ⟨_, (pss_cons (ps_set (i := 2) sc_Family_depth.nd rfl (by first | exact Or.inl rfl | exact Or.inr rfl) (pe_c c_lot_of hr (by decide) rfl (pa_cons (pv 1) (pa_cons (pe_fld (pv 0) rfl) pa_nil)))) (pss_one (ps_ret (pe_callB (cr_min rfl) (by rfl) B.min (by decide +kernel) (pa_cons (pe_lc (own := [("other", 3)]) (g := gName 3) (by rfl) sc_Family_depth.nd (pi_tup (pe_fld (pv 0) rfl)) (blkOk_by (own := [("other", 3)]) (N := ["self", "lot", "row", "other"]) (sc := defScope (inClass (top 30) 16)) (by decide +kernel)) (fun _ _ _ _ _ => (pg_name (i := 3) sc_Family_depth.nd rfl (by first | exact Or.inl rfl | exact Or.inr rfl))) (fun _ _ _ _ _ => pts_nil) (fun _ _ _ _ _ => (pe_callB (call_lenSetK (w := w) rfl) (by rfl) B.len (by decide +kernel) (pa_cons (pe_op (op_setXorK (w := w) rfl) (pe_callTy (cr_setOfIK (K := K) (w := w) rfl rfl rfl) (by rfl) B.set (by decide +kernel) (pa_cons (pv 2) pa_nil)) (pe_callTy (cr_setOfIK (K := K) (w := w) rfl rfl rfl) (by rfl) B.set (by decide +kernel) (pa_cons (pv 3) pa_nil))) pa_nil)))) pa_nil))))), ?_⟩
    refine q_asgU (eu_call (xs := nv (lotF t)) (ea_cons (ev_v 1) (ea_cons (ev_size hf C (ev_v 0)) ea_nil)) fun H2 e2 Q2 q2 E2 => ⟨p, us, lotF t, size, rfl, hp.ex e2, ⟨pm.nodup_iff.mpr lo.1.1, fun n hn => lo.1.2.1 n (pm.mem_iff.mp hn), lo.1.2.2⟩, pm.symm, lo.2, q2⟩) fun r H1 hr1 e1 h1 => ?_
    obtain ⟨dx, fs, tl, rs, g1, g2, g3, g4, g5, g6⟩ := hf.ex e1
    refine s_ret (ev_minN (ns := fm.map fun n => bits (n ^^^ t)) ?_ (mn_ok hne2).1 (mn_ok hne2).2) fun H2 e2 => q H2 (e1.trans e2)
    have el := el_lotsT (K := K) (te := tCB (rLenSet w) (tCons (tOp (rSetXor w) (tCB (rSetOfI K w) (tCons (tVar 2) tNil)) (tCB (rSetOfI K w) (tCons (tVar 3) tNil))) tNil)) (tl := tFld K (tVar 0) "lots") (j := 3) (vs := [3]) (σ := [some (.ref a), some (.ref p), some (.ref r), none]) (H := H1) (fun ns => .int (bits (orF ns ^^^ t) : Nat)) (ev_fld (ev_v 0) g1 C.cls C.a2 g3) (st_of g5) g6 (by rw [List.length_map]; have := ok.len; omega) (fun _ => rfl) (fun x ns H2 e2 hx hns => by
      obtain ⟨b, rfl, hb⟩ := hx
      obtain ⟨m, hm, rfl⟩ := List.mem_map.mp hns
      rw [orF_lot m (ok.lt64 m hm)]
      exact ev_symd (ok.lt32 m hm) (sh32 hz ht) (e2 _ _ h1) hb (fun H3 e3 => ev_v 2) (fun H3 e3 => ev_v 3))
    have e3 : (fm.map lotF).map (fun ns => V.int (bits (orF ns ^^^ t) : Nat)) = nv (fm.map fun n => bits (n ^^^ t)) := by
      unfold nv
      simp only [List.map_map]
      refine List.map_congr_left fun m hm => ?_
      show V.int ((bits (orF (lotF m) ^^^ t) : Nat) : Int) = _
      rw [orF_lot m (ok.lt64 m hm)]; rfl
    rw [e3] at el
    exact el
theorem c_depth_ofP (F : FnP K "depth_of" (top 41) f fd) (g : mg "depth_of" = some (.ref f)) (B : Bi mg) (m_depthP : Met P w K mg base 4 CF "depth" (spDepthP CF) []) : Cal P w K mg base 5 "depth_of" (spDepthP CF) [] := by
  have m_depth := m_depthP
  refine mkCal F g sc_depth_of (fun _ _ _ _ _ _ us hl => match us, hl with | [_, _], _ => rfl) (fun vs H Q E h => ?_) (fun cdv A outer s H vs Q E hr h => ?_)
  · obtain ⟨a, p, size, fm, t, rfl, _⟩ := h
    rfl
  · obtain ⟨a, p, size, fm, t, rfl, hf, ok, ht, hp, q⟩ := h
    refine ⟨_, (pss_one (ps_ret (pe_mt m_depth hr (by decide) (pv 0) (pa_cons (pv 1) pa_nil)))), ?_⟩
    obtain ⟨dx, fs, tl, rs, g1, g2, g3, g4, g5, g6⟩ := id hf
    exact ⟨.ref a, rfl, a, dx, fs, rfl, g1, g4, .ref p, rfl, a, p, size, fm, t, rfl, hf, ok, ht, hp, q⟩
theorem eu_revU {σ : L2.St} {H : Hp} {te : TE} {xs : List V} (h : EvU te σ H xs) : EvU (tRevT K te) σ H xs.reverse := fun H1 e Q q => h H1 e _ fun a H2 ha e2 h2 => ⟨a, xs, rfl, st_of h2, fun l hl => q l _ (fresh_back e2 hl) (e2.trans (Ex.new hl)) upd_same⟩
theorem ev_depRev {σ : L2.St} {H : Hp} {i j size t a : Nat} {wm : List Nat} {E1 E2 : XK} (hi : σ[i]? = some (some (.ref a))) (hj : σ[j]? = some (some (.int (t : Nat)))) (hf : FamAt H CF a size wm) (ok : FamOk size wm) (ht : t < 1 <<< size) : Ev (tCall (spDepthP CF) [] E1 (tCons (tVar i) (tCons (tRevT K (tCall spLot [] E2 (tCons (tVar j) tNil))) tNil))) σ H (.int (rkF wm t : Nat)) := fun H1 e Q q => by
  have lot : EvU (tCall spLot [] E2 (tCons (tVar j) tNil)) σ H (nv (lotF t)) := eu_call (ea_cons (ev_v j hj) ea_nil) fun H2 e2 Q2 q2 E2 => ⟨t, rfl, q2⟩
  refine ⟨_, hi, eu_revU (K := K) lot H1 e _ fun u H2 hu e2 h2 => ⟨a, u, size, wm, t, rfl, hf.ex (e.trans e2), ok, ht, ⟨(lotF t).reverse, (lotF t).reverse_perm, .inr ?_⟩, fun H3 e3 => q H3 (e2.trans e3)⟩⟩
  rw [h2]
  unfold nv
  rw [List.map_reverse]
def spDepsIn (CF : Addr) : Sp := fun vs H Q _ => ∃ (a p size k : Nat) (fm wm : List Nat), vs = [.int size, .ref p, .ref a, .int k] ∧ FamAt H CF a size wm ∧ FamOk size wm ∧ SqL K H p (nv (depF size fm)) ∧ (∀ t, t < 1 <<< size → rkF wm t = rkF fm t - k) ∧ RetV (.bl true) H Q
theorem sc_law_depths_in : FnScope ["_law_size", "_law_levels", "_law_wide", "_law_number_here", "_law_lot_here", "_law_far"] ["_law_size", "_law_levels", "_law_wide", "_law_number_here"] (defScope (top 69)) := ⟨rfl, rfl, rfl, by decide +kernel, rfl, by decide +kernel, by decide +kernel⟩
theorem c_law_depths_in (F : FnP K "_law_depths_in" (top 69) f fd) (g : mg "_law_depths_in" = some (.ref f)) (B : Bi mg) (c_depth_of : Cal P w K mg base 5 "depth_of" (spDepthP CF) []) (c_law_lot : Cal P w K mg base 1 "_law_lot" spLot []) (c_law_int : Cal P w K mg base 1 "_law_int" spIsInt []) : Cal P w K mg base 6 "_law_depths_in" (spDepsIn (K := K) CF) [] := by
  refine mkCal F g sc_law_depths_in (fun _ _ _ _ _ _ us hl => match us, hl with | [_, _, _, _], _ => rfl) (fun vs H Q E h => ?_) (fun cdv A outer s H vs Q E hr h => ?_)
  · obtain ⟨a, p, size, k, fm, wm, rfl, _⟩ := h
    rfl
  · obtain ⟨a, p, size, k, fm, wm, rfl, hf, ok, hp, hw, q⟩ := h
    refine ⟨_, (pss_cons (ps_for PassesOwn.never rfl (pi_range1 rfl B.range (pa_cons (pe_op on_shl (pe_nat 1 pe_int) (pv 0)) pa_nil)) (pg_name (i := 4) sc_law_depths_in.nd rfl (by first | exact Or.inl rfl | exact Or.inr rfl)) (pss_cons (ps_set (i := 5) sc_law_depths_in.nd rfl (by first | exact Or.inl rfl | exact Or.inr rfl) (pe_c c_depth_of hr (by decide) rfl (pa_cons (pv 2) (pa_cons (pe_revTE (K := K) rfl (pe_c c_law_lot hr (by decide) rfl (pa_cons (pv 4) pa_nil))) pa_nil)))) (pss_one (ps_if (PW.pt (pw_or (pt_not (pt_val (pe_c c_law_int hr (by decide) rfl (pa_cons (pv 5) pa_nil)))) (pw_or1 (pt_cmpR on_ne (pv 5) (pe_callB (call_max2 rfl) (by rfl) B.max (by decide +kernel) (pa_cons (pe_nat 0 pe_int) (pa_cons (pe_op op_sub (pe_ix (on_ix (K := K)) (pv 1) (pv 4) (fun _ _ => rfl)) (pv 3)) pa_nil))) (nomark _))))) (pss_one (ps_ret pe_bl)) pss_nil)))) (pss_one (ps_ret pe_bl))), ?_⟩
    have h5 := ok.s5
    have h64 := pow64 (n := size) (by omega)
    refine q_forR1 (n := ((1 <<< size : Nat) : Int)) (ea_cons (ev_nc ev_c (ev_v 0) ⟨by decide, by omega⟩) ea_nil) ((fun N h => by omega : ∀ N : Nat, N ≤ 64 → 0 ≤ (N : Int) ∧ (N : Int) ≤ 100000) _ h64) (fun i σ H' => Ex H H' ∧ ∃ v4 v5, σ = [some (.int (size : Nat)), some (.ref p), some (.ref a), some (.int (k : Nat)), v4, v5]) (fun H1 e1 => ⟨e1, _, _, rfl⟩) ?_ ?_
    · rintro i σ H' hi ⟨e0, v4, v5, rfl⟩
      have ht : i < 1 <<< size := by exact_mod_cast hi
      refine q_asg (v := .int (rkF wm i : Nat)) (ev_depRev rfl rfl (hf.ex e0) ok ht) fun H1 e1 => ?_
      have sub : Ev (tOp (rI0 fun i j => .int (i - j)) (tOp (rIxN K) (tVar 1) (tVar 4)) (tVar 3)) [some (.int (size : Nat)), some (.ref p), some (.ref a), some (.int (k : Nat)), some (.int (i : Nat)), some (.int (rkF wm i : Nat))] H1 (.int ((rkF fm i : Int) - (k : Int))) := ev_op (ev_ix (ex_l (e0.trans e1) hp) (ev_v 1) (ev_v 4) (nv_rng ht)) (ev_v 3) fun H2 _ _ q => ⟨_, _, rfl, rfl, q H2 (Ex.refl H2)⟩
      have mx : (if ((rkF fm i : Int) - (k : Int)) > ((0 : Nat) : Int) then ((rkF fm i : Int) - (k : Int)) else ((0 : Nat) : Int)) = ((rkF wm i : Nat) : Int) := by
        rw [hw i ht]
        split <;> omega
      have top : Ev (tCB rMax2 (tCons (tC (.int ((0 : Nat) : Int))) (tCons (tOp (rI0 fun i j => .int (i - j)) (tOp (rIxN K) (tVar 1) (tVar 4)) (tVar 3)) tNil))) [some (.int (size : Nat)), some (.ref p), some (.ref a), some (.int (k : Nat)), some (.int (i : Nat)), some (.int (rkF wm i : Nat))] H1 (.int (rkF wm i : Nat)) := ev_is (ev_max2 ev_c sub) (by rw [mx])
      refine s_if (b := !true || !decide (rkF wm i = rkF wm i)) (et_or (et_not (et_B (ev_call (ea_cons (ev_v 5) ea_nil) fun H2 e2 Q2 q2 E2 => ⟨_, rfl, q2⟩))) fun _ => et_test (ev_n (ev_v 5) top)) (fun hb => absurd hb (by rw [show decide (rkF wm i = rkF wm i) = true from decide_eq_true rfl]; decide)) (fun _ H2 e2 => ⟨e0.trans (e1.trans e2), _, _, rfl⟩)
    · rintro σ H' ⟨e0, v4, v5, rfl⟩
      exact s_ret ev_c fun H4 e4 => q H4 (e0.trans e4)
end
end W7
end
section
namespace W7
open PySem PySem.Spec PyProof.Rows L2 L3 Evl ClX
open C8 (Cal pe_c Mak pe_mk Met pe_mt pe_mt0)
/-- the family at a is that of the lots S -/
structure FamS (H : Hp) (CF a size : Nat) (S : Nat → Prop) (fm : List Nat) : Prop where
  at_ : FamAt H CF a size fm
  ok : FamOk size fm
  nd : fm.Nodup
  up : (fm.map lotF).Pairwise lexLe
  iff : ∀ k, k ∈ fm ↔ S k
theorem FamS.ex {H H' : Hp} {CF a size : Nat} {S : Nat → Prop} {fm : List Nat} (h : FamS H CF a size S fm) (e : Ex H H') : FamS H' CF a size S fm := ⟨h.at_.ex e, h.ok, h.nd, h.up, h.iff⟩
theorem FamS.len {H : Hp} {CF a size : Nat} {S : Nat → Prop} {fm : List Nat} (h : FamS H CF a size S fm) : fm.length ≤ 40 := by
  have := nd_len h.nd (n := 32) h.ok.lt32
  omega
def EvFam (CF size : Nat) (te : TE) (σ : L2.St) (H : Hp) (S : Nat → Prop) : Prop := ∀ H1, Ex H H1 → ∀ Q : VK, (∀ x fm H2, Ex H1 H2 → FamS H2 CF x size S fm → Q (.ref x) H2) → te σ H1 Q
def inS (size : Nat) (S : Nat → Prop) (k m : Nat) : Prop := m < 1 <<< size ∧ ∃ n, S n ∧ bits (n ^^^ m) ≤ k
def jusS (size : Nat) (S : Nat → Prop) (k m : Nat) : Prop := m < 1 <<< size ∧ ∃ n, S n ∧ bits (n ^^^ m) = k
def joinS (S T : Nat → Prop) (m : Nat) : Prop := ∃ n, S n ∧ ∃ u, T u ∧ m = n ^^^ u
theorem ret_fam {CF size : Nat} {S T : Nat → Prop} {H : Hp} {Q : VK} (e : ∀ k, S k ↔ T k) (q : ∀ x fm H2, Ex H H2 → FamS H2 CF x size T fm → Q (.ref x) H2) : RetFam CF size S H Q := fun x H' fm _ e1 nd mem up hf _ ok => q x fm H' e1 ⟨hf, ok, nd, up, fun k => (mem k).trans (e k)⟩
/-- within, just_at for good numbers -/
def spWithinC (CF : Addr) : Sp := fun vs H Q _ => ∃ (a size k : Nat) (fm : List Nat), vs = [.ref a, .int k] ∧ FamAt H CF a size fm ∧ FamOk size fm ∧ RetFam CF size (inK fm size k) H Q
def spJustC (CF : Addr) : Sp := fun vs H Q _ => ∃ (a size k : Nat) (fm : List Nat), vs = [.ref a, .int k] ∧ FamAt H CF a size fm ∧ FamOk size fm ∧ k ≤ size ∧ fm.length ≤ 40 ∧ RetFam CF size (jusK fm size k) H Q
section
variable {P : Program} {w : World} {K : PySem.W.Frag} {mg : Str → Option Value} {base : Heap} {f : Addr} {fd : FuncData} {CF CN : Addr}
theorem within_calm (c : CalE P w K mg base 7 "within" (spWithin CF CN)) : Cal P w K mg base 7 "within" (spWithinC CF) [] := c.calm fun vs H Q E ⟨a, size, k, fm, e, hf, ok, q⟩ => ⟨a, _, e, .inl ⟨size, k, fm, rfl, hf, ok, q⟩⟩
theorem just_calm (c : CalE P w K mg base 7 "just_at" (spJust CF CN)) : Cal P w K mg base 7 "just_at" (spJustC CF) [] := c.calm fun vs H Q E ⟨a, size, k, fm, e, hf, ok, hk, hl, q⟩ => ⟨a, _, size, fm, e, hf, ok, .inl ⟨k, rfl, hk, hl, q⟩⟩
end
section
variable {K : PySem.W.Frag} {σ : L2.St} {H : Hp} {ta tb te : TE} {CF size : Nat} {S T U : Nat → Prop}
theorem evf_iff (h : EvFam CF size te σ H S) (e : ∀ k, S k ↔ T k) : EvFam CF size te σ H T := fun H1 e1 Q q => h H1 e1 Q fun x fm H2 e2 s => q x fm H2 e2 ⟨s.at_, s.ok, s.nd, s.up, fun k => (s.iff k).trans (e k)⟩
theorem evf_v (i : Nat) {a : Nat} {fm : List Nat} (h : FamS H CF a size S fm) (hi : σ[i]? = some (some (.ref a)) := by rfl) : EvFam CF size (tVar i) σ H S := fun H1 e1 Q q => ⟨_, hi, q a fm H1 (Ex.refl _) (h.ex e1)⟩
theorem evf_within {tk : TE} {k : Nat} {E : XK} (h : EvFam CF size te σ H S) (hk : Ev tk σ H (.int (k : Nat))) : EvFam CF size (tCall (spWithinC CF) [] E (tCons te (tCons tk tNil))) σ H (inS size S k) := fun H1 e1 Q q =>
  h H1 e1 _ fun x fm H2 e2 s => hk H2 (e1.trans e2) _ fun H3 e3 => ⟨x, size, k, fm, rfl, s.at_.ex e3, s.ok, ret_fam (fun m => by
    constructor
    · intro z
      obtain ⟨n, hn, b⟩ := (in_of_gap s.ok z.1).mp z
      exact ⟨z.1, n, (s.iff n).mp hn, b⟩
    · rintro ⟨hm, n, hn, b⟩
      exact (in_of_gap s.ok hm).mpr ⟨n, (s.iff n).mpr hn, b⟩) fun y gm H4 e4 t => q y gm H4 (e2.trans (e3.trans e4)) t⟩
theorem evf_just {tk : TE} {k : Nat} {E : XK} (h : EvFam CF size te σ H S) (hk : Ev tk σ H (.int (k : Nat))) (hs : k ≤ size) : EvFam CF size (tCall (spJustC CF) [] E (tCons te (tCons tk tNil))) σ H (jusS size S k) := fun H1 e1 Q q =>
  h H1 e1 _ fun x fm H2 e2 s => hk H2 (e1.trans e2) _ fun H3 e3 => ⟨x, size, k, fm, rfl, s.at_.ex e3, s.ok, hs, s.len, ret_fam (fun m => by
    constructor
    · rintro ⟨hm, n, hn, b⟩
      exact ⟨hm, n, (s.iff n).mp hn, b⟩
    · rintro ⟨hm, n, hn, b⟩
      exact ⟨hm, n, (s.iff n).mpr hn, b⟩) fun y gm H4 e4 t => q y gm H4 (e2.trans (e3.trans e4)) t⟩
theorem evf_sized {t1 t2 t3 : TE} {low high : Nat} (h1 : Ev t1 σ H (.int (size : Nat))) (h2 : Ev t2 σ H (.int (low : Nat))) (h3 : Ev t3 σ H (.int (high : Nat))) (s1 : 1 ≤ size) (s5 : size ≤ 5) (hne : ∃ k, sizK size low high k) : EvFam CF size (tCMeth CF (spSizedF CF) C8.E0 (tC (.ref CF)) (tCons t1 (tCons t2 (tCons t3 tNil)))) σ H (sizK size low high) := fun H1 e1 Q q =>
  ⟨rfl, h1 H1 e1 _ fun H2 e2 => h2 H2 (e1.trans e2) _ fun H3 e3 => h3 H3 (e1.trans (e2.trans e3)) _ fun H4 e4 => ⟨size, low, high, rfl, s1, s5, hne, ret_fam (fun k => Iff.rfl) fun y gm H5 e5 t => q y gm H5 (e2.trans (e3.trans (e4.trans e5))) t⟩⟩
theorem evf_add (h1 : EvFam CF size ta σ H S) (h2 : EvFam CF size tb σ H T) : EvFam CF size (tOp (rCmpI CF (spAddF CF)) ta tb) σ H (joinS S T) := fun H1 e1 Q q =>
  h1 H1 e1 _ fun x fm H2 e2 s => h2 H2 (e1.trans e2) _ fun y gm H3 e3 t => by
    have s3 := s.ex e3
    obtain ⟨dx, fs, _, _, i1, _⟩ := id s3.at_
    obtain ⟨dy, gs, _, _, i2, _⟩ := id t.at_
    refine ⟨x, dx, fs, y, dy, gs, rfl, rfl, i1, i2, x, y, size, fm, gm, rfl, s3.at_, s.ok, t.at_, t.ok, s.len, t.len, ret_fam (fun k => ?_) fun z hm H4 e4 u => q z hm H4 (e2.trans (e3.trans e4)) u⟩
    unfold joinK joinS
    constructor
    · rintro ⟨n, hn, m, hm, e⟩
      exact ⟨n, (s.iff n).mp hn, m, (t.iff m).mp hm, e⟩
    · rintro ⟨n, hn, m, hm, e⟩
      exact ⟨n, (s.iff n).mpr hn, m, (t.iff m).mpr hm, e⟩
theorem fam_same {H1 H2 : Hp} {x y : Nat} {fm gm : List Nat} (s : FamS H1 CF x size S fm) (t : FamS H2 CF y size T gm) (e : ∀ k, S k ↔ T k) : fm = gm := srt_eq s.up t.up s.ok.lt64 t.ok.lt64 s.nd t.nd fun k => (s.iff k).trans ((e k).trans (t.iff k).symm)
theorem ev_eqFam (h1 : EvFam CF size ta σ H S) (h2 : EvFam CF size tb σ H T) (e : ∀ k, S k ↔ T k) : Ev (tOp (rCmpI CF (spEqF CF)) ta tb) σ H (.bl true) := fun H1 e1 Q q =>
  h1 H1 e1 _ fun x fm H2 e2 s => h2 H2 (e1.trans e2) _ fun y gm H3 e3 t => by
    have s3 := s.ex e3
    obtain ⟨dx, fs, _, _, i1, _⟩ := id s3.at_
    obtain ⟨dy, gs, _, _, i2, _⟩ := id t.at_
    have same := fam_same s3 t e
    subst same
    refine ⟨x, dx, fs, y, dy, gs, rfl, rfl, i1, i2, x, y, size, size, fm, fm, rfl, s3.at_, s.ok, t.at_, t.ok, fun H4 e4 => ?_⟩
    rw [decide_eq_true rfl, decide_eq_true rfl]
    exact q H4 (e2.trans (e3.trans e4))
theorem ev_neFam (h1 : EvFam CF size ta σ H S) (h2 : EvFam CF size tb σ H T) (e : ∀ k, S k ↔ T k) : Ev (tOp (rNeI CF (spEqF CF)) ta tb) σ H (.bl false) := fun H1 e1 Q q =>
  h1 H1 e1 _ fun x fm H2 e2 s => h2 H2 (e1.trans e2) _ fun y gm H3 e3 t => by
    have s3 := s.ex e3
    obtain ⟨dx, fs, _, _, i1, _⟩ := id s3.at_
    obtain ⟨dy, gs, _, _, i2, _⟩ := id t.at_
    have same := fam_same s3 t e
    subst same
    refine ⟨x, dx, fs, y, dy, gs, rfl, rfl, i1, i2, x, y, size, size, fm, fm, rfl, s3.at_, s.ok, t.at_, t.ok, fun H4 e4 => ?_⟩
    rw [decide_eq_true rfl, decide_eq_true rfl]
    exact ⟨true, rfl, q H4 (e2.trans (e3.trans e4))⟩
theorem ev_nbFam {b : Bool} {E : XK} (h1 : EvFam CF size ta σ H S) (h2 : EvFam CF size tb σ H T) (hb : ∀ fm gm, Srt fm → Srt gm → FamOk size fm → FamOk size gm → (∀ k, k ∈ fm ↔ S k) → (∀ k, k ∈ gm ↔ T k) → decide (clashO size fm gm = none) = b) : Ev (tCall (spClash CF fun size fm gm => RetV (.bl (decide (clashO size fm gm = none)))) [] E (tCons ta (tCons tb tNil))) σ H (.bl b) := fun H1 e1 Q q =>
  h1 H1 e1 _ fun x fm H2 e2 s => h2 H2 (e1.trans e2) _ fun y gm H3 e3 t => ⟨x, y, size, fm, gm, rfl, (s.ex e3).at_, s.ok, t.at_, t.ok, fun H4 e4 => by
    rw [hb fm gm ⟨s.ok.ne, s.ok.lt64, s.nd, s.up⟩ ⟨t.ok.ne, t.ok.lt64, t.nd, t.up⟩ s.ok t.ok s.iff t.iff]
    exact q H4 (e2.trans (e3.trans e4))⟩
theorem ev_gatFam {b : Bool} {E : XK} (h1 : EvFam CF size ta σ H S) (hb : ∀ fm, FamOk size fm → (∀ k, k ∈ fm ↔ S k) → (b = true ↔ RowsOk size fm)) : Ev (tCall (spIsGated CF) [] E (tCons ta tNil)) σ H (.bl b) := fun H1 e1 Q q =>
  h1 H1 e1 _ fun x fm H2 e2 s => by
    have z := ev_gated (σ := [some (.ref x)]) (i := 0) s.at_ s.ok (hb fm s.ok s.iff)
    have z2 := z H2 (Ex.refl _) Q fun H3 e3 => q H3 (e2.trans e3)
    obtain ⟨v, hv, z3⟩ := z2
    cases hv
    exact z3
theorem ev_lawIs {tp ts : TE} {ms : List Nat} {E : XK} (h1 : EvFam CF size ta σ H S) (hs : Ev ts σ H (.int (size : Nat))) (hp : EvL tp σ H (nv ms)) (nd : ms.Nodup) (hz : ms.length ≤ 64) (e : ∀ k, k ∈ ms ↔ S k) : Ev (tCall (spLawIs (K := K) CF) [] E (tCons ta (tCons ts (tCons tp tNil)))) σ H (.bl true) := fun H1 e1 Q q =>
  h1 H1 e1 _ fun x fm H2 e2 s => hs H2 (e1.trans e2) _ fun H3 e3 => hp H3 (e1.trans (e2.trans e3)) _ fun p H4 hp4 e4 h4 => ⟨x, p, size, fm, ms, rfl, s.at_.ex (e3.trans e4), s.up, (List.perm_ext_iff_of_nodup s.nd nd).mpr fun k => (s.iff k).trans (e k).symm, sq_of h4, hz, fun H5 e5 => q H5 (e2.trans (e3.trans (e4.trans e5)))⟩
end
end W7
end
section
namespace W7
open PySem PySem.Spec PyProof.Rows L2 L3 Evl ClX
open C8 (Cal pe_c Mak pe_mk Met pe_mt pe_mt0)
/-! ### neighbours of the lots within -/
theorem clash_none {size : Nat} {fm gm : List Nat} (h : ∀ t, t < 1 <<< size → okB fm gm t = true) (h5 : size ≤ 5) : clashO size fm gm = none := by
  unfold clashO
  rw [List.find?_eq_none]
  intro t ht
  have := (ord_ok size (by omega)).2.1 t ht
  rw [h t this]
  decide
theorem ok_self (fm : List Nat) (t : Nat) : okB fm fm t = true := by
  unfold okB
  rw [decide_eq_true rfl, decide_eq_true rfl]
  rfl
theorem sub_rest {m u : Nat} (h : u &&& m = u) : (m ^^^ u) &&& m = m ^^^ u := by
  apply Nat.eq_of_testBit_eq
  intro i
  have z := congrArg (fun k => Nat.testBit k i) h
  simp only [Nat.testBit_and] at z
  rw [Nat.testBit_and, Nat.testBit_xor]
  revert z
  cases u.testBit i <;> cases m.testBit i <;> decide
theorem ok_near {size t : Nat} {fm wm : List Nat} (Sf : Srt fm) (Sw : Srt wm) (ok : FamOk size fm) (okw : FamOk size wm) (hw : ∀ m, m ∈ wm ↔ inK fm size 1 m) (ht : t < 1 <<< size) : okB fm wm t = true := by
  have h5 := ok.s5
  have r := rk_within ok okw hw ht
  by_cases h0 : rkF fm t = 0
  · have here : ∀ gm : List Nat, FamOk size gm → rkF gm t = 0 → ∀ n, LB (seen gm t) n ↔ n = 0 := fun gm okg hz n => by
      have tg : t ∈ gm := by
        obtain ⟨g, hg, e⟩ := rk_at t okg.ne
        have z := bits_zero _ (sh32 h5 (xor_lt (okg.lt g hg) ht)) (by omega)
        have : g = t := by
          have := xxB g t
          rw [z, Nat.zero_xor] at this
          exact this.symm
        exact this ▸ hg
      have s0 : seen gm t 0 := by
        unfold seen
        rw [Nat.zero_xor]; exact tg
      constructor
      · rintro ⟨hn, hl⟩
        have z := hl 0 s0
        have z0 : bits 0 = 0 := by decide
        have hn' : n ^^^ t ∈ gm := hn
        have ln := xor_lt (okg.lt _ hn') ht
        rw [xxB] at ln
        exact bits_zero n (sh32 h5 ln) (by omega)
      · rintro rfl
        have z0 : bits 0 = 0 := by decide
        exact ⟨s0, fun c _ => by omega⟩
    have low := And.intro (here fm ok h0) (here wm okw (by omega))
    refine kp_ok Sf Sw ⟨0, 0, ?_, ?_, .inl ⟨rfl, fun n => ?_⟩⟩
    · exact (low.1 0).mpr rfl
    · exact (low.2 0).mpr rfl
    · exact (low.1 n).trans (low.2 n).symm
  · have e : decide (rkF fm t = rkF wm t + 1) = true := decide_eq_true (by omega)
    unfold okB
    rw [e, Bool.true_and]
    have k : kepB (nrF fm t) (aprF wm t) = true := by
      unfold kepB
      rw [List.all_eq_true]
      intro m hm
      unfold nrF aprF at hm
      obtain ⟨hm, hb⟩ := List.mem_filter.mp hm
      obtain ⟨n, hn, rfl⟩ := List.mem_map.mp hm
      have hb := of_decide_eq_true hb
      have l1 := xor_lt (ok.lt n hn) ht
      obtain ⟨u, _, hs, hu, hr⟩ := sub_of7 (m := n ^^^ t) (j := 1) (sh32 h5 l1) (by omega)
      have lu := and_lt' l1 hs
      unfold conB aprF
      rw [List.any_eq_true]
      refine ⟨(n ^^^ u) ^^^ t, List.mem_map.mpr ⟨n ^^^ u, (hw _).mpr ((in_of_gap ok (xor_lt (ok.lt n hn) lu)).mpr ⟨n, hn, by rw [xxA]; omega⟩), rfl⟩, decide_eq_true ?_⟩
      have e4 : (n ^^^ u) ^^^ t = (n ^^^ t) ^^^ u := by rw [Nat.xor_assoc, Nat.xor_comm u t, ← Nat.xor_assoc]
      rw [e4]
      exact sub_rest hs
    rw [k]
    simp
theorem ok_far {size t : Nat} {fm wm : List Nat} (ok : FamOk size fm) (okw : FamOk size wm) (hw : ∀ m, m ∈ wm ↔ inK fm size 2 m) (ht : t < 1 <<< size) (h2 : 2 ≤ rkF fm t) : okB fm wm t = false := by
  have r := rk_within ok okw hw ht
  unfold okB
  rw [decide_eq_false (show ¬ rkF wm t = rkF fm t by omega), decide_eq_false (show ¬ rkF wm t = rkF fm t + 1 by omega), decide_eq_false (show ¬ rkF fm t = rkF wm t + 1 by omega)]
  rfl
section
variable {K : PySem.W.Frag} {σ : L2.St} {H : Hp} {te ta ts tp : TE} {CF size : Nat} {S : Nat → Prop} {D : Ends} {tz : TS}
theorem q_asgFam {j : Nat} (h : EvFam CF size te σ H S) (k : ∀ x fm H1, Ex H H1 → FamS H1 CF x size S fm → tz D (σ.set j (some (.ref x))) H1) : tSeq (tAsg te (gName j)) tz D σ H := h H (Ex.refl _) _ fun x fm H1 e1 s => k x fm H1 e1 s
theorem ev_lawIsV {ms : List Nat} {p : Addr} {E : XK} (h1 : EvFam CF size ta σ H S) (hs : Ev ts σ H (.int (size : Nat))) (hp : Ev tp σ H (.ref p)) (hx : SqL K H p (nv ms)) (nd : ms.Nodup) (hz : ms.length ≤ 64) (e : ∀ k, k ∈ ms ↔ S k) : Ev (tCall (spLawIs (K := K) CF) [] E (tCons ta (tCons ts (tCons tp tNil)))) σ H (.bl true) := fun H1 e1 Q q =>
  h1 H1 e1 _ fun x fm H2 e2 s => hs H2 (e1.trans e2) _ fun H3 e3 => hp H3 (e1.trans (e2.trans e3)) _ fun H4 e4 => ⟨x, p, size, fm, ms, rfl, s.at_.ex (e3.trans e4), s.up, (List.perm_ext_iff_of_nodup s.nd nd).mpr fun k => (s.iff k).trans (e k).symm, ex_l (e1.trans (e2.trans (e3.trans e4))) hx, hz, fun H5 e5 => q H5 (e2.trans (e3.trans (e4.trans e5)))⟩
end
section
variable {P : Program} {w : World} {K : PySem.W.Frag} {mg : Str → Option Value} {base : Heap} {f : Addr} {fd : FuncData} {CF CN : Addr}
/-- does some mask lie just k things from i -/
def jusB (ms : List Nat) (k i : Nat) : Bool := decide (0 < (ms.filter fun m => decide (bits (m ^^^ i) = k)).length)
theorem jus_iff {ms : List Nat} {k i : Nat} : jusB ms k i = true ↔ ∃ n ∈ ms, bits (n ^^^ i) = k := by
  unfold jusB
  rw [decide_eq_true_eq, List.length_pos_iff_exists_mem]
  constructor
  · rintro ⟨n, hn⟩
    obtain ⟨h1, h2⟩ := List.mem_filter.mp hn
    exact ⟨n, h1, of_decide_eq_true h2⟩
  · rintro ⟨n, h1, h2⟩
    exact ⟨n, List.mem_filter.mpr ⟨h1, decide_eq_true h2⟩⟩
def spLawJust (CF : Addr) : Sp := fun vs H Q _ => ∃ (p a size k : Nat) (fm ms : List Nat), vs = [.int size, .ref p, .ref a, .int k] ∧ FamS H CF a size (· ∈ ms) fm ∧ SqL K H p (nv ms) ∧ ms.length ≤ 64 ∧ k ≤ size ∧ RetV (.bl true) H Q
theorem sc_law_just : FnScope ["_law_size", "_law_masks", "_law_family_here", "_law_number_here", "_law_rows", "_law_lot_here", "_law_one", "_law_told"] ["_law_size", "_law_masks", "_law_family_here", "_law_number_here"] (defScope (top 70)) := ⟨rfl, rfl, rfl, by decide +kernel, rfl, by decide +kernel, by decide +kernel⟩
theorem c_law_just (ic : C8.InsC K CF) (sf : PySem.W.selfFirst K CF = true) (hm : mg "Family" = some (.ref CF)) (F : FnP K "_law_just" (top 70) f fd) (g : mg "_law_just" = some (.ref f)) (B : Bi mg) (c_law_bits : Cal P w K mg base 1 "_law_bits" spBits []) (c_just_at : Cal P w K mg base 7 "just_at" (spJustC CF) []) (c_law_is : Cal P w K mg base 3 "_law_is" (spLawIs (K := K) CF) []) (m_eqF : Met P w K mg base 1 CF "__eq__" (spEqF CF) []) (m_addF : Met P w K mg base 7 CF "__add__" (spAddF CF) []) (m_sized : CMt P w K mg base 7 CF "sized" (spSizedF CF)) : Cal P w K mg base 8 "_law_just" (spLawJust (K := K) CF) [] := by
  refine mkCal F g sc_law_just (fun _ _ _ _ _ _ us hl => match us, hl with | [_, _, _, _], _ => rfl) (fun vs H Q E h => ?_) (fun cdv A outer s H vs Q E hr h => ?_)
  · obtain ⟨p, a, size, k, fm, ms, rfl, _⟩ := h
    rfl
  · obtain ⟨p, a, size, k, fm, ms, rfl, hf, hp, hz, hk, q⟩ := h
    refine ⟨_, (pss_cons (ps_set (i := 4) sc_law_just.nd rfl (by first | exact Or.inl rfl | exact Or.inr rfl) (pe_lst pa_nil)) (pss_cons (ps_for PassesOwn.never rfl (pi_range1 rfl B.range (pa_cons (pe_op on_shl (pe_nat 1 pe_int) (pv 0)) pa_nil)) (pg_name (i := 5) sc_law_just.nd rfl (by first | exact Or.inl rfl | exact Or.inr rfl)) (pss_one (ps_if (pt_cmpR on_gt (pe_callB call_len_seq (by rfl) B.len (by decide +kernel) (pa_cons (pe_lc (own := [("_law_one", 6)]) (g := gName 6) (by rfl) sc_law_just.nd (pi_list (pv 1)) (blkOk_by (own := [("_law_one", 6)]) (N := ["_law_size", "_law_masks", "_law_family_here", "_law_number_here", "_law_rows", "_law_lot_here", "_law_one", "_law_told"]) (sc := defScope (top 70)) (by decide +kernel)) (fun _ _ _ _ _ => (pg_name (i := 6) sc_law_just.nd rfl (by first | exact Or.inl rfl | exact Or.inr rfl))) (fun _ _ _ _ _ => (pts_one (pt_cmpR on_eq (pe_c c_law_bits hr (by decide) rfl (pa_cons (pe_op on_xor (pv 6) (pv 5)) pa_nil)) (pv 3) (nomark _)))) (fun _ _ _ _ _ => (pv 6))) pa_nil)) (pe_nat 0 pe_int) (nomark _)) (pss_one (ps_expr (pe_bm PySem.F.plainAttrs_list PySem.F.slot_list_append PySem.F.type_list_append mt_append (pv 4) (pa_cons (pv 5) pa_nil)))) pss_nil))) (pss_cons (ps_set (i := 7) sc_law_just.nd rfl (by first | exact Or.inl rfl | exact Or.inr rfl) (pe_c c_just_at hr (by decide) rfl (pa_cons (pv 2) (pa_cons (pv 3) pa_nil)))) (pss_one (ps_ret (pe_and (pe_c c_law_is hr (by decide) rfl (pa_cons (pv 7) (pa_cons (pv 0) (pa_cons (pv 4) pa_nil)))) (pe_one (pe_cmpR (op_cmpI (fun _ _ => rfl) m_eqF hr (by decide)) (pv 7) (pe_op (op_addI m_addF sf hr (by decide)) (pv 2) (pe_cmt m_sized hr (by decide) (C8.pe_gc (v := .ref CF) rfl ⟨.ref CF, hm, rfl⟩) (pa_cons (pv 0) (pa_cons (pv 3) (pa_cons (pv 3) pa_nil))))) (nomark _))))))))), ?_⟩
    have h5 := hf.ok.s5
    have h64 := pow64 (n := size) (by omega)
    refine q_asgL (xs := nv []) (el_lst ea_nil (by decide)) fun r H1 hr1 e1 h1 => ?_
    refine q_forR1 (n := ((1 <<< size : Nat) : Int)) (ea_cons (ev_nc ev_c (ev_v 0) ⟨by decide, by omega⟩) ea_nil) ((fun N h => by omega : ∀ N : Nat, N ≤ 64 → 0 ≤ (N : Int) ∧ (N : Int) ≤ 100000) _ h64) (fun i σ H' => Ex H H' ∧ H' r = some (.lst (nv ((List.range i).filter (jusB ms k)))) ∧ ∃ v5 v6, σ = [some (.int (size : Nat)), some (.ref p), some (.ref a), some (.int (k : Nat)), some (.ref r), v5, v6, none]) (fun H2 e2 => ⟨e1.trans e2, e2 _ _ h1, _, _, rfl⟩) ?_ ?_
    · rintro i σ H' hi ⟨e0, h2, v5, v6, rfl⟩
      have ht : i < 1 <<< size := by exact_mod_cast hi
      have el := el_nats (K := K) (ns := ms) (tl := tVar 1) (te := tVar 6) (t := tTest (tOp (rN0 fun a b => .bl (decide (a = b))) (tCall spBits [] C8.E0 (tCons (tOp (rN0 fun a b => .int ((a ^^^ b : Nat) : Int)) (tVar 6) (tVar 5)) tNil)) (tVar 3))) (j := 6) (vs := [6]) (σ := [some (.int (size : Nat)), some (.ref p), some (.ref a), some (.int (k : Nat)), some (.ref r), some (.int (i : Nat)), v6, none]) (H := H') (fun m => decide (bits (m ^^^ i) = k)) (fun m => .int (m : Nat)) (ev_v 1) (ex_l e0 hp) (by omega) (fun _ => rfl) (fun m H3 e3 hm => et_test (ev_n (ev_call (z := .int (bits (m ^^^ i) : Nat)) (ea_cons (ev_n (ev_v 6) (ev_v 5)) ea_nil) fun H4 e4 Q4 q4 E4 => ⟨_, rfl, q4⟩) (ev_v 3))) (fun m H3 e3 hm _ => ev_v 6)
      refine s_if (b := jusB ms k i) (et_is (et_test (ev_n (g := fun a b => .bl (decide (b < a))) (ev_is (ev_lenN (K := K) el) (by rw [List.length_map])) ev_c)) rfl) (fun hb H3 e3 => ?_) (fun hb H3 e3 => ?_)
      · refine s_push (e3 _ _ h2) (ev_v 5) ?_ fun H4 e4 => ⟨Ex.mut (e0.trans (e3.trans e4)) hr1, ?_, _, _, rfl⟩
        · rw [nv_len]
          have := List.length_filter_le (jusB ms k) (List.range i)
          rw [List.length_range] at this
          omega
        · rw [upd_same, List.range_succ, List.filter_append, List.filter_cons, if_pos hb]
          unfold nv
          rw [List.map_append]; rfl
      · refine ⟨e0.trans e3, ?_, _, _, rfl⟩
        rw [e3 _ _ h2, List.range_succ, List.filter_append, List.filter_cons, if_neg (by rw [hb]; decide)]
        simp
    · rintro σ H' ⟨e0, h2, v5, v6, rfl⟩
      rw [Int.toNat_natCast] at h2
      have fs := hf.ex e0
      have mem : ∀ m, m ∈ (List.range (1 <<< size)).filter (jusB ms k) ↔ jusS size (· ∈ ms) k m := fun m => by
        rw [List.mem_filter, List.mem_range, jus_iff]
        exact Iff.rfl
      refine q_asgFam (j := 7) (evf_just (evf_v 2 fs) (ev_v 3) hk) fun x gm H2 e2 s => ?_
      have few : ((List.range (1 <<< size)).filter (jusB ms k)).length ≤ 64 := by
        refine Nat.le_trans (List.length_filter_le _ _) ?_
        rw [List.length_range]; exact h64
      have some_ : ∃ u, sizK size k k u := by
        obtain ⟨u, hu, e⟩ := full_bits size (by omega) k hk
        exact ⟨u, hu, by omega, by omega⟩
      refine s_ret (ev_andV (a := true) (b := true) (ev_lawIsV (evf_v 7 s) (ev_v 0) (ev_v 4) (sq_of (e2 _ _ h2)) (List.nodup_range.filter _) few mem) fun _ => ev_eqFam (evf_v 7 s) (evf_add (evf_v 2 (fs.ex e2)) (evf_sized (ev_v 0) (ev_v 3) (ev_v 3) hf.ok.s1 h5 some_)) fun m => ?_) fun H3 e3 => q H3 (e0.trans (e2.trans e3))
      unfold jusS joinS
      constructor
      · rintro ⟨hm, n, hn, e⟩
        have hn' := (hf.iff n).mpr hn
        exact ⟨n, hn, n ^^^ m, ⟨xor_lt (hf.ok.lt n hn') hm, by omega, by omega⟩, (xxA n m).symm⟩
      · rintro ⟨n, hn, u, ⟨hu, b1, b2⟩, rfl⟩
        have hn' := (hf.iff n).mpr hn
        exact ⟨xor_lt (hf.ok.lt n hn') hu, n, hn, by rw [xxA]; omega⟩
/-- the refused numbers -/
theorem ev_refNe {σ : L2.St} {H : Hp} {ta tl : TE} (ha : EvL ta σ H [.str "number", .bl true]) (hb : EvL tl σ H [.str "number", .bl true]) : Ev (tOp (rNeD K) ta tl) σ H (.bl false) := fun H1 e1 Q q =>
  ha H1 e1 _ fun p H2 _ e2 h2 => hb H2 (e1.trans e2) _ fun r H3 _ e3 h3 => ⟨_, _, .lst (sq_of (e3 _ _ h2)) (.cons (.str _) (.cons (.bl _) .nil)), .lst (sq_of h3) (.cons (.str _) (.cons (.bl _) .nil)), by decide +kernel, by decide +kernel, by
    have : PyData.eqv (.list [.str "number", .bool true]) (.list [.str "number", .bool true]) = true := eqv_self (by decide +kernel)
    rw [this]
    exact q H3 (e2.trans e3)⟩
theorem ev_refEq {σ : L2.St} {H : Hp} {ta tl : TE} (ha : EvL ta σ H [.str "number", .bl true]) (hb : EvL tl σ H [.str "number", .bl true]) : Ev (tOp (rEqD K) ta tl) σ H (.bl true) := fun H1 e1 Q q =>
  ha H1 e1 _ fun p H2 _ e2 h2 => hb H2 (e1.trans e2) _ fun r H3 _ e3 h3 => ⟨_, _, .lst (sq_of (e3 _ _ h2)) (.cons (.str _) (.cons (.bl _) .nil)), .lst (sq_of h3) (.cons (.str _) (.cons (.bl _) .nil)), by decide +kernel, by decide +kernel, by
    have : PyData.eqv (.list [.str "number", .bool true]) (.list [.str "number", .bool true]) = true := eqv_self (by decide +kernel)
    rw [this]
    exact q H3 (e2.trans e3)⟩
/-- for x in t, t a new tuple -/
theorem q_forNew {σ : L2.St} {H : Hp} {tl : TE} {g : TG} {tu tz : TS} {D : Ends} (h : ∀ Q : VK, (∀ p t H1, Ex H H1 → H1 t = some (.tup [.int 1]) → H1 p = some (.tup [.int (-1), .non, .bl true, .str "1", .ref t]) → Q (.ref p) H1) → tl σ H Q) (k : ∀ p t H1, Ex H H1 → H1 t = some (.tup [.int 1]) → H1 p = some (.tup [.int (-1), .non, .bl true, .str "1", .ref t]) → tSeq (tFor (iTup K (tC (.ref p))) g tu) tz D σ H1) : tSeq (tFor (iTup K tl) g tu) tz D σ H := h _ fun p t H1 e1 h1 h2 => k p t H1 e1 h1 h2
def spDoors (CF : Addr) : Sp := fun vs H Q _ => ∃ (a size : Nat) (fm : List Nat), vs = [.int size, .ref a] ∧ FamAt H CF a size fm ∧ FamOk size fm ∧ RetV (.bl true) H Q
theorem sc_law_doors : FnScope ["_law_size", "_law_family_here", "_law_wrong", "_law_word"] ["_law_size", "_law_family_here"] (defScope (top 71)) := ⟨rfl, rfl, rfl, by decide +kernel, rfl, by decide +kernel, by decide +kernel⟩
theorem c_law_doors (F : FnP K "_law_doors" (top 71) f fd) (g : mg "_law_doors" = some (.ref f)) (B : Bi mg) (c_law_refused : Cal P w K mg base 8 "_law_refused" (spLawRef CF) []) : Cal P w K mg base 9 "_law_doors" (spDoors CF) [] := by
  refine mkCal F g sc_law_doors (fun _ _ _ _ _ _ us hl => match us, hl with | [_, _], _ => rfl) (fun vs H Q E h => ?_) (fun cdv A outer s H vs Q E hr h => ?_)
  · obtain ⟨a, size, fm, rfl, _⟩ := h
    rfl
  · obtain ⟨a, size, fm, rfl, hf, ok, q⟩ := h
    refine ⟨_, (pss_cons (ps_for PassesOwn.never rfl (pi_tup (pe_tup (pa_cons (pe_un un_neg (pe_nat 1 pe_int)) (pa_cons pe_non (pa_cons pe_bl (pa_cons pe_str (pa_cons (pe_tup (pa_cons (pe_nat 1 pe_int) pa_nil)) pa_nil))))))) (pg_name (i := 2) sc_law_doors.nd rfl (by first | exact Or.inl rfl | exact Or.inr rfl)) (pss_one (ps_for PassesOwn.never rfl (pi_range1 rfl B.range (pa_cons (pe_nat 2 pe_int) pa_nil)) (pg_name (i := 3) sc_law_doors.nd rfl (by first | exact Or.inl rfl | exact Or.inr rfl)) (pss_one (ps_if (pt_cmpR (op_neD hr.units) (pe_c c_law_refused hr (by decide) rfl (pa_cons (pv 3) (pa_cons (pv 1) (pa_cons (pv 2) pa_nil)))) (pe_lst (pa_cons pe_str (pa_cons pe_bl pa_nil))) (nomark _)) (pss_one (ps_ret pe_bl)) pss_nil))))) (pss_one (ps_ret (pe_cmpR (op_eqD hr.units) (pe_c c_law_refused hr (by decide) rfl (pa_cons (pe_nat 1 pe_int) (pa_cons (pv 1) (pa_cons (pe_op on_add (pv 0) (pe_nat 1 pe_int)) pa_nil)))) (pe_lst (pa_cons pe_str (pa_cons pe_bl pa_nil))) (nomark _))))), ?_⟩
    refine q_forNew ?_ fun p t H1 e1 h1 h2 => ?_
    · intro Q1 k
      have inner : EvU (tTup (tCons (tC (.int ((1 : Nat) : Int))) tNil)) (start ["_law_size", "_law_family_here", "_law_wrong", "_law_word"] [.int (size : Nat), .ref a]) H [.int 1] := eu_tup (ea_cons ev_c ea_nil) (by decide)
      have z := inner H (Ex.refl H) (fun v H1 => ([.int (-1), .non, .bl true, .str "1", v] : List V).length ≤ sizeLine ∧ ∀ p, H1 p = none → Q1 (.ref p) (upd H1 p (.tup [.int (-1), .non, .bl true, .str "1", v]))) (fun t H1 ht e1 h1 => ⟨Nat.le_of_lt (small1000 (show 5 ≤ 1000 by decide)), fun p hp => k p t _ (e1.trans (Ex.new hp)) (by rw [upd_ne (fun e => by rw [e, hp] at h1; cases h1)]; exact h1) upd_same⟩)
      exact ⟨_, rfl, z⟩
    · refine q_forT (K := K) (a := p) (xs := [.int (-1), .non, .bl true, .str "1", .ref t]) ev_c (st_of h2) (fun i σ H' => Ex H1 H' ∧ ∃ v2 v3, σ = [some (.int (size : Nat)), some (.ref a), v2, v3]) (fun H2 e2 => ⟨e2, _, _, rfl⟩) (fun i σ H' _ z => st_of (z.1 _ _ h2)) ?_ ?_
      · rintro i x σ H' hx ⟨e2, v2, v3, rfl⟩
        have bad : BadV H' x ∨ ∃ i, x = .int i ∧ i < 0 := by
          match i, hx with
          | 0, hx => cases hx; exact .inr ⟨-1, rfl, by decide⟩
          | 1, hx => cases hx; exact .inl (.inl rfl)
          | 2, hx => cases hx; exact .inl (.inr (.inl ⟨_, rfl⟩))
          | 3, hx => cases hx; exact .inl (.inr (.inr (.inl ⟨_, rfl⟩)))
          | 4, hx => cases hx; exact .inl (.inr (.inr (.inr ⟨t, _, rfl, e2 _ _ h1⟩)))
        refine s_forR1 (n := 2) (ea_cons ev_c ea_nil) (by decide) (fun j σ H'' => Ex H' H'' ∧ ∃ v3, σ = [some (.int (size : Nat)), some (.ref a), some x, v3]) (fun H3 e3 => ⟨e3, _, rfl⟩) ?_ ?_
        · rintro j σ H'' hj ⟨e3, v4, rfl⟩
          have all := e1.trans (e2.trans e3)
          have bad3 := bad.imp (fun b => b.ex e3) id
          refine s_if (b := false) (et_test (ev_refNe (el_call (ea_cons (ev_v 3) (ea_cons (ev_v 1) (ea_cons (ev_v 2) ea_nil))) fun H4 e4 Q4 q4 E4 => ⟨j, a, size, fm, x, rfl, (hf.ex all).ex e4, ok, ?_, q4⟩) (el_lst (ea_cons ev_c (ea_cons ev_c ea_nil)) (by decide)))) (fun hb => by cases hb) (fun _ H4 e4 => ⟨e3.trans e4, _, rfl⟩)
          have bad4 := bad3.imp (fun b => b.ex e4) id
          rcases (by omega : j = 0 ∨ j = 1) with rfl | rfl
          · exact .inl ⟨rfl, bad4⟩
          · exact .inr ⟨rfl, bad4.imp id fun ⟨i, e, h⟩ => ⟨i, e, .inl h⟩⟩
        · rintro σ H'' ⟨e3, v4, rfl⟩
          exact ⟨e2.trans e3, _, _, rfl⟩
      · rintro σ H' ⟨e2, v2, v3, rfl⟩
        have e12 := e1.trans e2
        refine s_ret (ev_refEq (el_call (ea_cons ev_c (ea_cons (ev_v 1) (ea_cons (ev_n (ev_v 0) ev_c) ea_nil))) fun H3 e3 Q3 q3 E3 => ⟨1, a, size, fm, _, rfl, (hf.ex e12).ex e3, ok, .inr ⟨rfl, .inr ⟨_, rfl, .inr (by omega)⟩⟩, q3⟩) (el_lst (ea_cons ev_c (ea_cons ev_c ea_nil)) (by decide))) fun H3 e3 => q H3 (e12.trans e3)
end
end W7
end
section
namespace W7
open PySem PySem.Spec PyProof.Rows L2 L3 Evl ClX
open C8 (Cal pe_c Mak pe_mk Met pe_mt pe_mt0)
theorem FamAt.sbd {H H' : Hp} {d a CF : Addr} {size : Nat} {fm : List Nat} (h : FamAt H CF a size fm) (D : DrawsAt H d) (s : SB d H H') : FamAt H' CF a size fm := by
  obtain ⟨dx, fs, tl, rs, h1, h2, h3, h4, h5, h6⟩ := h
  obtain ⟨xs, D2⟩ := id D
  exact ⟨dx, fs, tl, rs, s.kp _ _ (fun e => by rw [e, D2] at h1; cases h1) h1, h2, h3, h4, s.tup D h5, h6.sb D s⟩
theorem FamS.sbd {H H' : Hp} {d a CF size : Nat} {S : Nat → Prop} {fm : List Nat} (h : FamS H CF a size S fm) (D : DrawsAt H d) (s : SB d H H') : FamS H' CF a size S fm := ⟨h.at_.sbd D s, h.ok, h.nd, h.up, h.iff⟩
section
variable {K : PySem.W.Frag} {σ : L2.St} {H : Hp} {te ta tb : TE}
theorem ev_brkE {i : Nat} {size : Nat} {p : Addr} {ms : List Nat} {b : Bool} (hte : Ev te σ H (.ref p)) (hb : b = true ↔ GatedP size ms) (hz : size ≤ 6) (gd : ∀ m ∈ ms, m < 1 <<< size) (hp : SqL K H p (nv ms)) (hi : σ[i]? = some (some (.int (size : Nat))) := by rfl) :
    Ev (tOp (rN0 fun a b => .bl (decide (a = b))) (tCB (rLenS K) (tCons (tCall (spBreaks K) [] C8.E0 (tCons (tVar i) (tCons te tNil))) tNil)) (tC (.int ((0 : Nat) : Int)))) σ H (.bl b) := fun H1 e Q q => ⟨_, hi, hte H1 e _ fun H2 e2 => ⟨size, p, ms, rfl, ex_l (e.trans e2) hp, hz, gd, fun hg l H3 hl e3 h3 => by
  have hb2 := hb.mpr hg
  subst hb2
  exact ⟨l, [], rfl, .inl (sq_of h3), 0, 0, rfl, rfl, q H3 (e2.trans e3)⟩, fun hg x y z l H3 hl e3 h3 => by
  have hb2 : b = false := by
    cases b with
    | false => rfl
    | true => exact absurd (hb.mp rfl) hg
  subst hb2
  exact ⟨l, [x, y, z], rfl, .inl (sq_of h3), 3, 0, rfl, rfl, q H3 (e2.trans e3)⟩⟩⟩
theorem el_listRg {n : Nat} (ha : Ev ta σ H (.int (n : Nat))) (hn : n ≤ 1000) : EvL (tLstRg (tRg1 ta)) σ H (nv (List.range n)) := fun H1 e Q q => ha H1 e _ fun H2 e2 => ⟨(n : Nat), rfl, ⟨by omega, by omega, by omega, by omega, by omega⟩, fun c hc => by
  refine q c _ (fresh_back e2 hc) (e2.trans (Ex.new hc)) ?_
  rw [upd_same]
  unfold rgV nv
  have e : ((n : Int) - 0).toNat = n := by omega
  rw [e]
  exact congrArg some (congrArg HO.lst (List.map_congr_left fun i _ => by simp))⟩
theorem ev_maxV {ns : List Nat} {m : Nat} {p : Addr} (h : Ev te σ H (.ref p)) (hp : H p = some (.lst (nv ns))) (hm : m ∈ ns) (hl : ∀ y ∈ ns, y ≤ m) : Ev (tCB (rMax K) (tCons te tNil)) σ H (.int (m : Nat)) := fun H1 e Q q => h H1 e _ fun H2 e2 => by
  refine ⟨p, ns.map fun n => ((n : Nat) : Int), rfl, sq_of (by rw [(e.trans e2) _ _ hp]; unfold nv; rw [List.map_map]; rfl), by rw [List.length_map]; exact List.length_pos_of_mem hm, fun k hk hk2 => ?_⟩
  obtain ⟨n, hn, rfl⟩ := List.mem_map.mp hk
  have h3 := hk2 _ (List.mem_map.mpr ⟨m, hm, rfl⟩)
  have h4 := hl n hn
  have : n = m := by omega
  rw [this]
  exact q H2 e2
def N28 : Nat := 10 ^ 28
theorem ev_n28 {C : Int → Int → Prop} (hc : C 10 28) : Ev (tOp (rI C fun i j => .int (i ^ j.toNat)) (tC (.int 10)) (tC (.int 28))) σ H (.int (N28 : Nat)) := ev_op ev_c ev_c fun H1 _ Q0 q => ⟨10, 28, rfl, rfl, hc, by
  have e : (10 : Int) ^ (28 : Int).toNat = ((N28 : Nat) : Int) := by decide +kernel
  show Q0 (V.int ((10 : Int) ^ (28 : Int).toNat)) H1
  rw [e]
  exact q H1 (Ex.refl H1)⟩
end
theorem rk_same {size t : Nat} {fm ms : List Nat} (okf : FamOk size fm) (okm : FamOk size ms) (e : ∀ k, k ∈ fm ↔ k ∈ ms) : rkF fm t = rkF ms t := by
  apply Nat.le_antisymm
  · obtain ⟨g, hg, h⟩ := rk_at t okm.ne
    rw [← h]; exact rk_le ((e g).mpr hg)
  · obtain ⟨g, hg, h⟩ := rk_at t okf.ne
    rw [← h]; exact rk_le ((e g).mp hg)
theorem dep_same {size : Nat} {fm ms : List Nat} (okf : FamOk size fm) (okm : FamOk size ms) (e : ∀ k, k ∈ fm ↔ k ∈ ms) : depF size fm = depF size ms := List.map_congr_left fun t _ => rk_same okf okm e
/-! ### what the law's tests say of lots -/
theorem in_zero {size : Nat} {S : Nat → Prop} (hS : ∀ m, S m → m < 1 <<< size) (h5 : size ≤ 5) (m : Nat) : inS size S 0 m ↔ S m := by
  constructor
  · rintro ⟨hm, n, hn, b⟩
    have z := bits_zero _ (sh32 h5 (xor_lt (hS n hn) hm)) (by omega)
    have : n = m := by
      have := xxB n m
      rw [z, Nat.zero_xor] at this
      exact this.symm
    exact this ▸ hn
  · intro h
    exact ⟨hS m h, m, h, by rw [Nat.xor_self]; decide⟩
theorem jus_zero {size : Nat} {S : Nat → Prop} (hS : ∀ m, S m → m < 1 <<< size) (h5 : size ≤ 5) (m : Nat) : jusS size S 0 m ↔ S m := by
  constructor
  · rintro ⟨hm, n, hn, b⟩
    exact (in_zero hS h5 m).mp ⟨hm, n, hn, by omega⟩
  · intro h
    exact ⟨hS m h, m, h, by rw [Nat.xor_self]; decide⟩
theorem in_in {size a b : Nat} {S : Nat → Prop} (hS : ∀ m, S m → m < 1 <<< size) (h5 : size ≤ 5) (m : Nat) : inS size (inS size S a) b m ↔ inS size S (a + b) m := by
  constructor
  · rintro ⟨hm, n, ⟨hn, s, hs, h1⟩, h2⟩
    refine ⟨hm, s, hs, ?_⟩
    have l1 := sh32 h5 (xor_lt (hS s hs) hn)
    have l2 := sh32 h5 (xor_lt hn hm)
    have z := bits_tri _ l1 _ l2
    have e : (s ^^^ n) ^^^ (n ^^^ m) = s ^^^ m := by rw [Nat.xor_assoc, xxA]
    rw [e] at z
    omega
  · rintro ⟨hm, s, hs, h⟩
    have lm := xor_lt (hS s hs) hm
    by_cases hb : bits (s ^^^ m) ≤ b
    · exact ⟨hm, s, ⟨hS s hs, s, hs, by rw [Nat.xor_self]; exact Nat.le_trans (by decide) (Nat.zero_le a)⟩, hb⟩
    · obtain ⟨u, _, hsu, hu, hr⟩ := sub_of7 (m := s ^^^ m) (j := b) (sh32 h5 lm) (by omega)
      have lu := and_lt' lm hsu
      refine ⟨hm, m ^^^ u, ⟨xor_lt hm lu, s, hs, ?_⟩, ?_⟩
      · rw [← Nat.xor_assoc, hr]; omega
      · rw [Nat.xor_comm m u, xxB, hu]; exact Nat.le_refl _
theorem in_sum {size k : Nat} {S : Nat → Prop} (hS : ∀ m, S m → m < 1 <<< size) (m : Nat) : joinS S (sizK size 0 k) m ↔ inS size S k m := by
  constructor
  · rintro ⟨n, hn, u, ⟨lu, _, hb⟩, rfl⟩
    exact ⟨xor_lt (hS n hn) lu, n, hn, by rw [xxA]; exact hb⟩
  · rintro ⟨hm, n, hn, hb⟩
    exact ⟨n, hn, n ^^^ m, ⟨xor_lt (hS n hn) hm, Nat.zero_le _, hb⟩, (xxA n m).symm⟩
theorem in_big {size : Nat} {S : Nat → Prop} (h1 : ∃ m, S m) (hS : ∀ m, S m → m < 1 <<< size) (h5 : size ≤ 5) (m : Nat) : inS size S N28 m ↔ m < 1 <<< size := by
  constructor
  · exact fun h => h.1
  · intro hm
    obtain ⟨n, hn⟩ := h1
    have b := bits_size size (by omega) _ (xor_lt (hS n hn) hm)
    exact ⟨hm, n, hn, Nat.le_trans b (Nat.le_trans h5 (by decide +kernel))⟩
theorem jus_sum {size k : Nat} {S : Nat → Prop} (m : Nat) : (∃ j, j ≤ k ∧ jusS size S j m) ↔ inS size S k m := by
  constructor
  · rintro ⟨j, hj, hm, n, hn, e⟩
    exact ⟨hm, n, hn, by omega⟩
  · rintro ⟨hm, n, hn, h⟩
    exact ⟨_, h, hm, n, hn, rfl⟩
theorem in_ex {size k : Nat} {S : Nat → Prop} (hS : ∀ m, S m → m < 1 <<< size) (h5 : size ≤ 5) (h : EX S) : EX (inS size S k) := by
  have j := join_ex h (siz_ex (size := size) (low := 0) (high := k) h5 (.inl rfl)) (fun m hm => sh32 h5 (hS m hm)) (fun m hm => sh32 h5 hm.1)
  have e : (fun k' => ∃ n, S n ∧ ∃ m, sizK size 0 k m ∧ k' = n ^^^ m) = inS size S k := by
    funext m
    exact propext (in_sum hS m)
  rw [e] at j
  exact j
theorem jus_ex {size k : Nat} {S : Nat → Prop} (hS : ∀ m, S m → m < 1 <<< size) (h5 : size ≤ 5) (h : EX S) : EX (jusS size S k) := by
  have j := join_ex h (siz_ex (size := size) (low := k) (high := k) h5 (.inr rfl)) (fun m hm => sh32 h5 (hS m hm)) (fun m hm => sh32 h5 hm.1)
  have e : (fun k' => ∃ n, S n ∧ ∃ m, sizK size k k m ∧ k' = n ^^^ m) = jusS size S k := by
    funext m
    apply propext
    constructor
    · rintro ⟨n, hn, u, ⟨lu, h1, h2⟩, rfl⟩
      exact ⟨xor_lt (hS n hn) lu, n, hn, by rw [xxA]; omega⟩
    · rintro ⟨hm, n, hn, hb⟩
      exact ⟨n, hn, n ^^^ m, ⟨xor_lt (hS n hn) hm, by omega, by omega⟩, (xxA n m).symm⟩
  rw [e] at j
  exact j
/-- gated by its lots -/
theorem rows_of {size : Nat} {S : Nat → Prop} {fm : List Nat} (ok : FamOk size fm) (e : ∀ k, k ∈ fm ↔ S k) (h : EX S) : RowsOk size fm := rows_ok ok.lt (by
  have : (· ∈ fm) = S := by
    funext k
    exact propext (e k)
  show EX (fun k => k ∈ fm)
  rw [this]
  exact h)
theorem mem_listed {size : Nat} {ms : List Nat} (k : Nat) : k ∈ listF (insF size ms) ↔ k < 1 <<< size ∧ k ∈ ms := by
  unfold listF insF
  rw [List.mem_filter, List.mem_range, List.length_map, List.length_range]
  refine and_congr_right fun h => ?_
  rw [List.getD_eq_getElem?_getD, List.getElem?_map]; rw [List.getElem?_range h]
  simp
end W7
end
section
namespace W7
open PySem PySem.Spec PyProof.Rows L2 L3 Evl ClX
open C8 (Cal pe_c Mak pe_mk Met pe_mt pe_mt0)
theorem in_same {size k m : Nat} {fm : List Nat} {S : Nat → Prop} (ok : FamOk size fm) (e : ∀ k, k ∈ fm ↔ S k) : inS size S k m ↔ inK fm size k m := by
  constructor
  · rintro ⟨hm, n, hn, b⟩
    exact (in_of_gap ok hm).mpr ⟨n, (e n).mpr hn, b⟩
  · intro z
    obtain ⟨n, hn, b⟩ := (in_of_gap ok z.1).mp z
    exact ⟨z.1, n, (e n).mp hn, b⟩
/-! ### which clashes the law's families have -/
theorem nb_self {size : Nat} {S T : Nat → Prop} (h : ∀ k, S k ↔ T k) : ∀ fm gm, Srt fm → Srt gm → FamOk size fm → FamOk size gm → (∀ k, k ∈ fm ↔ S k) → (∀ k, k ∈ gm ↔ T k) → decide (clashO size fm gm = none) = true := fun fm gm sf sg okf okg ef eg => by
  have e : fm = gm := srt_eq sf.up sg.up sf.lt sg.lt sf.nd sg.nd fun k => (ef k).trans ((h k).trans (eg k).symm)
  subst e
  exact decide_eq_true (clash_none (fun t _ => ok_self fm t) okf.s5)
theorem nb_near {size : Nat} {S : Nat → Prop} : ∀ fm gm, Srt fm → Srt gm → FamOk size fm → FamOk size gm → (∀ k, k ∈ fm ↔ S k) → (∀ k, k ∈ gm ↔ inS size S 1 k) → decide (clashO size fm gm = none) = true := fun fm gm sf sg okf okg ef eg =>
  decide_eq_true (clash_none (fun t ht => ok_near sf sg okf okg (fun m => (eg m).trans (in_same okf ef)) ht) okf.s5)
theorem nb_near2 {size : Nat} {S : Nat → Prop} : ∀ gm fm, Srt gm → Srt fm → FamOk size gm → FamOk size fm → (∀ k, k ∈ gm ↔ inS size S 1 k) → (∀ k, k ∈ fm ↔ S k) → decide (clashO size gm fm = none) = true := fun gm fm sg sf okg okf eg ef =>
  decide_eq_true (clash_none (fun t ht => by
    rw [ok_comm]
    exact ok_near sf sg okf okg (fun m => (eg m).trans (in_same okf ef)) ht) okf.s5)
theorem most_rk {size : Nat} {fm : List Nat} : (∃ t, t < 1 <<< size ∧ rkF fm t = mostF size fm) ∧ ∀ t, t < 1 <<< size → rkF fm t ≤ mostF size fm := by
  obtain ⟨m1, m2⟩ := most_of _ (dep_ne (size := size) (fm := fm))
  constructor
  · unfold depF at m1
    obtain ⟨t, ht, e⟩ := List.mem_map.mp m1
    exact ⟨t, List.mem_range.mp ht, e⟩
  · intro t ht
    exact m2 _ (List.mem_map.mpr ⟨t, List.mem_range.mpr ht, rfl⟩)
theorem far_iff {size : Nat} {fm gm : List Nat} {S : Nat → Prop} (sf : Srt fm) (sg : Srt gm) (okf : FamOk size fm) (okg : FamOk size gm) (ef : ∀ k, k ∈ fm ↔ S k) (eg : ∀ k, k ∈ gm ↔ inS size S 2 k) : (∀ t, t < 1 <<< size → okB fm gm t = true) ↔ mostF size fm ≤ 1 := by
  obtain ⟨⟨t0, h0, e0⟩, le⟩ := most_rk (size := size) (fm := fm)
  constructor
  · intro h
    by_cases hm : mostF size fm ≤ 1
    · exact hm
    · have z := ok_far okf okg (fun m => (eg m).trans (in_same okf ef)) h0 (by omega)
      rw [h t0 h0] at z
      cases z
  · intro h t ht
    refine ok_near sf sg okf okg (fun m => ((eg m).trans (in_same okf ef)).trans ?_) ht
    unfold inK
    exact ⟨fun z => ⟨z.1, by have := le m z.1; omega⟩, fun z => ⟨z.1, by have := z.2; omega⟩⟩
theorem clash_iff {size : Nat} {fm gm : List Nat} (h5 : size ≤ 5) : clashO size fm gm = none ↔ ∀ t, t < 1 <<< size → okB fm gm t = true := by
  constructor
  · intro h t ht
    unfold clashO at h
    rw [List.find?_eq_none] at h
    have := h t ((ord_ok size (by omega)).1 t ht)
    simpa using this
  · exact fun h => clash_none h h5
theorem nb_far {size mo : Nat} {S : Nat → Prop} (hmo : ∀ fm, FamOk size fm → (∀ k, k ∈ fm ↔ S k) → mostF size fm = mo) : ∀ fm gm, Srt fm → Srt gm → FamOk size fm → FamOk size gm → (∀ k, k ∈ fm ↔ S k) → (∀ k, k ∈ gm ↔ inS size S 2 k) → decide (clashO size fm gm = none) = decide (mo ≤ 1) := fun fm gm sf sg okf okg ef eg => by
  have z := (clash_iff okf.s5).trans (far_iff sf sg okf okg ef eg)
  rw [hmo fm okf ef] at z
  exact decide_eq_decide.mpr z
theorem nb_far2 {size mo : Nat} {S : Nat → Prop} (hmo : ∀ fm, FamOk size fm → (∀ k, k ∈ fm ↔ S k) → mostF size fm = mo) : ∀ gm fm, Srt gm → Srt fm → FamOk size gm → FamOk size fm → (∀ k, k ∈ gm ↔ inS size S 2 k) → (∀ k, k ∈ fm ↔ S k) → decide (clashO size gm fm = none) = decide (mo ≤ 1) := fun gm fm sg sf okg okf eg ef => by
  have z := (clash_iff (fm := fm) (gm := gm) okf.s5).trans (far_iff sf sg okf okg ef eg)
  have c : clashO size gm fm = none ↔ clashO size fm gm = none := by
    rw [clash_iff okf.s5, clash_iff okf.s5]
    exact forall_congr' fun t => by rw [ok_comm]
  rw [hmo fm okf ef] at z
  exact decide_eq_decide.mpr (c.trans z)
section
variable {K : PySem.W.Frag} {σ : L2.St} {H : Hp} {ta tb te tl : TE} {CF size : Nat} {S T : Nat → Prop}
theorem ev_clashFam {b : Bool} {E : XK} (h1 : EvFam CF size ta σ H S) (h2 : EvFam CF size tb σ H T) (hb : ∀ fm gm, Srt fm → Srt gm → FamOk size fm → FamOk size gm → (∀ k, k ∈ fm ↔ S k) → (∀ k, k ∈ gm ↔ T k) → decide (clashO size fm gm = none) = b) : ∀ H1, Ex H H1 → ∀ Q : VK, (∀ v H2, Ex H1 H2 → decide (v = .non) = b → Q v H2) → tCall (spClash CF RetClash) [] E (tCons ta (tCons tb tNil)) σ H1 Q := fun H1 e1 Q q =>
  h1 H1 e1 _ fun x fm H2 e2 s => h2 H2 (e1.trans e2) _ fun y gm H3 e3 t => ⟨x, y, size, fm, gm, rfl, (s.ex e3).at_, s.ok, t.at_, t.ok, due_ret fun v H4 e4 dv => q v H4 (e2.trans (e3.trans e4)) (by
    rw [dv.non]
    exact hb fm gm ⟨s.ok.ne, s.ok.lt64, s.nd, s.up⟩ ⟨t.ok.ne, t.ok.lt64, t.nd, t.up⟩ s.ok t.ok s.iff t.iff)⟩
theorem et_clashSome {b : Bool} {E : XK} (h1 : EvFam CF size ta σ H S) (h2 : EvFam CF size tb σ H T) (hb : ∀ fm gm, Srt fm → Srt gm → FamOk size fm → FamOk size gm → (∀ k, k ∈ fm ↔ S k) → (∀ k, k ∈ gm ↔ T k) → decide (clashO size fm gm = none) = b) : EvT (tB (tNotN (tCall (spClash CF RetClash) [] E (tCons ta (tCons tb tNil))))) σ H (!b) := et_B fun H1 e1 Q q =>
  ev_clashFam h1 h2 hb H1 e1 _ fun v H2 e2 hv => by
    show Q (.bl (!decide (v = .non))) H2
    rw [hv]
    exact q H2 e2
theorem ev_clashIs {b : Bool} {E : XK} (h1 : EvFam CF size ta σ H S) (h2 : EvFam CF size tb σ H T) (hb : ∀ fm gm, Srt fm → Srt gm → FamOk size fm → FamOk size gm → (∀ k, k ∈ fm ↔ S k) → (∀ k, k ∈ gm ↔ T k) → decide (clashO size fm gm = none) = b) : Ev (tIsN (tCall (spClash CF RetClash) [] E (tCons ta (tCons tb tNil)))) σ H (.bl b) := fun H1 e1 Q q =>
  ev_clashFam h1 h2 hb H1 e1 _ fun v H2 e2 hv => by
    show Q (.bl (decide (v = .non))) H2
    rw [hv]
    exact q H2 e2
theorem ev_neB {b : Bool} (h1 : Ev ta σ H (.bl b)) (h2 : Ev tb σ H (.bl b)) : Ev (tOp rNe ta tb) σ H (.bl false) := ev_op h1 h2 fun H1 _ Q q => ⟨rfl, by
  rw [decide_eq_true rfl]
  exact q H1 (Ex.refl H1)⟩
theorem ev_deepest {E : XK} {a mo : Nat} {fm : List Nat} (i : Nat) (s : FamS H CF a size S fm) (hmo : mostF size fm = mo) (hi : σ[i]? = some (some (.ref a)) := by rfl) : Ev (tCall (spDeepest CF) [] E (tCons (tVar i) tNil)) σ H (.int (mo : Nat)) := hmo ▸ ev_call (ea_cons (ev_v i hi) ea_nil) fun H1 e1 Q q E => ⟨a, size, fm, rfl, s.at_.ex e1, s.ok, q⟩
theorem el_listIns {E1 E2 : XK} {i j : Nat} {r : Addr} {R : List Nat} (h5 : size ≤ 5) (hr : SqL K H r (nv R)) (hR : ∀ m ∈ R, m < 1 <<< size) (hi : σ[i]? = some (some (.int (size : Nat))) := by rfl) (hj : σ[j]? = some (some (.ref r)) := by rfl) : EvL (tCall (spListed K) [] E1 (tCons (tCall (spIns K) [] E2 (tCons (tVar i) (tCons (tVar j) tNil))) tNil)) σ H (nv (listF (insF size R))) := fun H1 e1 Q q => by
  have h64 := pow64 (n := size) (by omega)
  exact ⟨_, hi, _, hj, size, r, R, rfl, ex_l e1 hr, by omega, hR, fun l H2 hl e2 h2 => ⟨l, insF size R, rfl, sq_of h2, by unfold insF; rw [List.length_map, List.length_range]; omega, fun l2 H3 hl2 e3 h3 => q l2 H3 (fresh_back e2 hl2) (e2.trans e3) h3⟩⟩
theorem q_asgQ {D : Ends} {tz : TS} {i : Nat} (h : te σ H fun v H1 => tz D (σ.set i (some v)) H1) : tSeq (tAsg te (gName i)) tz D σ H := h
/-- [_law_number(r) for r in F.lots], F a family by its lots -/
theorem el_famNums {E : XK} {j : Nat} {vs : List Nat} (C : FC K CF) (h : EvFam CF size te σ H S) (hv : ∀ x : V, ((wipe σ vs).set j (some x))[j]? = some (some x)) (hw : ∀ x, wipe ((wipe σ vs).set j (some x)) vs = wipe σ vs) :
    ∀ H1, Ex H H1 → ∀ Q : VK, (∀ p fm H2, H1 p = none → Ex H1 H2 → H2 p = some (.lst (nv fm)) → fm.length ≤ 40 → (∀ k, k ∈ fm ↔ S k) → Q (.ref p) H2) → tLc (iTup K (tFld K te "lots")) (gName j) tYes (tCall (spNum (K := K)) [] E (tCons (tVar j) tNil)) vs σ H1 Q := fun H1 e1 Q q =>
  h H1 e1 _ fun x fm H2 e2 s => by
    obtain ⟨dx, fs, tl, rs, h1, h2, h3, h4, h5, h6⟩ := id s.at_
    refine ⟨x, CF, dx, fs, .ref tl, rfl, h1, C.cls, C.a2, h3, ?_⟩
    have el := el_lotsT (K := K) (tl := tC (.ref tl)) (te := tCall (spNum (K := K)) [] E (tCons (tVar j) tNil)) (j := j) (vs := vs) (a := tl) (rs := rs) (L := fm.map lotF) (σ := σ) (H := H2) (fun ns => .int (numF ns : Nat)) ev_c (st_of h5) h6 (by rw [List.length_map]; have := s.len; omega) hw (fun r ns H3 e3 hr hns => by
      obtain ⟨b', rfl, hb'⟩ := hr
      obtain ⟨m, hm, rfl⟩ := List.mem_map.mp hns
      have := s.ok.lt64 m hm
      exact ev_call (ea_cons (ev_v j (hv _)) ea_nil) fun H4 e4 Q4 q4 E4 => ⟨b', lotF m, rfl, st_of (e4 _ _ hb'), fun n hn => by have := lotF_lt hn; omega, q4⟩)
    have enum : ((fm.map lotF).map fun ns => V.int ((numF ns : Nat) : Int)) = nv fm := by
      unfold nv
      rw [List.map_map]
      refine List.map_congr_left fun m hm => ?_
      show V.int ((numF (lotF m) : Nat) : Int) = _
      rw [num_lot m (s.ok.lt64 m hm)]
    rw [enum] at el
    exact el H2 (Ex.refl _) Q fun p H3 hp e3 h3 => q p fm H3 (fresh_back e2 hp) (e2.trans e3) h3 s.len s.iff
end
end W7
end
section
namespace W7
open PySem PySem.Spec PyProof.Rows L2 L3 Evl ClX
open C8 (Cal pe_c Mak pe_mk Met pe_mt pe_mt0)
section
variable {P : Program} {w : World} {K : PySem.W.Frag} {mg : Str → Option Value} {base : Heap} {f : Addr} {fd : FuncData} {CF : Addr}
def spLaw (K : PySem.W.Frag) : Sp := fun vs H Q _ => ∃ (p : Addr) (ns : List Int), vs = [.ref p] ∧ SqL K H p (ns.map V.int) ∧ ns.length ≤ 100000 ∧ ∀ H', Q (.bl true) H'
theorem sc_law : FnScope ["_law_script", "_law_draws_here", "_law_most", "_law_drawn", "_law_size", "_law_masks", "_law_family_here", "_law_gated", "_law_levels", "_law_number_here", "_law_wide", "_law_lot_here", "_law_more", "_law_at", "_law_rows", "_law_far", "_law_row", "_law_near"] ["_law_script"] (defScope (top 72)) := ⟨rfl, rfl, rfl, by decide +kernel, rfl, by decide +kernel, by decide +kernel⟩
theorem ok_law (C : FC K CF) (ic : C8.InsC K CF) (sf : PySem.W.selfFirst K CF = true) (hne : PySem.W.findIn K (.ref CF) "__ne__" = some (some (.builtin "object.__ne__"))) (hm : mg "Family" = some (.ref CF)) (F : FnP K "law" (top 72) f fd) (B : Bi mg) (c_law_draws : Cal P w K mg base 1 "_law_draws" (spDraws K) []) (c_law_take : Cal P w K mg base 1 "_law_take" spTake []) (c_law_family : Cal P w K mg base 4 "_law_family" (spFamily fun _ _ => True) []) (c_law_family_of : Cal P w K mg base 7 "_law_family_of" (spFamOf CF) []) (c_law_breaks : Cal P w K mg base 2 "_law_breaks" (spBreaks K) []) (c_law_depths : Cal P w K mg base 2 "_law_depths" (spLawDepths K) []) (c_deepest : Cal P w K mg base 5 "deepest" (spDeepest CF) []) (c_within : Cal P w K mg base 7 "within" (spWithinC CF) []) (c_just_at : Cal P w K mg base 7 "just_at" (spJustC CF) []) (m_eqF : Met P w K mg base 1 CF "__eq__" (spEqF CF) []) (m_addF : Met P w K mg base 7 CF "__add__" (spAddF CF) []) (m_sized : CMt P w K mg base 7 CF "sized" (spSizedF CF)) (c_law_is : Cal P w K mg base 3 "_law_is" (spLawIs (K := K) CF) []) (c_law_depths_in : Cal P w K mg base 6 "_law_depths_in" (spDepsIn (K := K) CF) []) (c_law_just : Cal P w K mg base 8 "_law_just" (spLawJust (K := K) CF) []) (c_law_number : Cal P w K mg base 1 "_law_number" (spNum (K := K)) []) (c_law_listed : Cal P w K mg base 1 "_law_listed" (spListed K) []) (c_law_inside : Cal P w K mg base 1 "_law_inside" (spIns K) []) (c_clash : Cal P w K mg base 5 "clash" (spClash CF RetClash) []) (c_are_neighbours : Cal P w K mg base 6 "are_neighbours" (spClash CF fun size fm gm => RetV (.bl (decide (clashO size fm gm = none)))) []) (c_is_gated : Cal P w K mg base 6 "is_gated" (spIsGated CF) []) (c_law_doors : Cal P w K mg base 9 "_law_doors" (spDoors CF) []) : FnOk P w K mg base CX0 10 f fd ["_law_script"] (spLaw K) := by
  refine F.ok sc_law (fun vs H Q E h => ?_) (fun cdv A outer s H vs Q E hr h => ?_)
  · obtain ⟨p, ns, rfl, _⟩ := h
    rfl
  · obtain ⟨p, ns, rfl, hs, hz, q⟩ := h
    suffices hh : ∃ t, PSs (cxOf CX0 P w K mg base ["_law_script", "_law_draws_here", "_law_most", "_law_drawn", "_law_size", "_law_masks", "_law_family_here", "_law_gated", "_law_levels", "_law_number_here", "_law_wide", "_law_lot_here", "_law_more", "_law_at", "_law_rows", "_law_far", "_law_row", "_law_near"] "law" (defScope (top 72)) f cdv A outer s H E).nox (defBody (top 72)) t ∧ t { nx := fun _ H' => Q .non H', rt := Q } (L2.start ["_law_script", "_law_draws_here", "_law_most", "_law_drawn", "_law_size", "_law_masks", "_law_family_here", "_law_gated", "_law_levels", "_law_number_here", "_law_wide", "_law_lot_here", "_law_more", "_law_at", "_law_rows", "_law_far", "_law_row", "_law_near"] [.ref p]) H from hh.elim fun t z => ⟨t, z.1.nox, z.2⟩
    refine ⟨_, (pss_cons (ps_set (i := 1) sc_law.nd rfl (by first | exact Or.inl rfl | exact Or.inr rfl) (pe_c c_law_draws hr (by decide) rfl (pa_cons (pv 0) pa_nil))) (pss_cons (ps_set (i := 2) sc_law.nd rfl (by first | exact Or.inl rfl | exact Or.inr rfl) (pe_nat 4 pe_int)) (pss_cut (ps_if (pt_cmpR on_eq (pe_c c_law_take hr (by decide) rfl (pa_cons (pv 1) (pa_cons (pe_nat 12 pe_int) pa_nil))) (pe_nat 11 pe_int) (nomark _)) (pss_one (ps_set (i := 2) sc_law.nd rfl (by first | exact Or.inl rfl | exact Or.inr rfl) (pe_nat 5 pe_int))) pss_nil) (pss_cons (ps_set (i := 3) sc_law.nd rfl (by first | exact Or.inl rfl | exact Or.inr rfl) (pe_c c_law_family hr (by decide) rfl (pa_cons (pv 1) (pa_cons (pv 2) pa_nil)))) (pss_cons (ps_set (i := 4) sc_law.nd rfl (by first | exact Or.inl rfl | exact Or.inr rfl) (pe_ix (on_ix (K := K)) (pv 3) (pe_nat 0 pe_int) (fun _ _ => rfl))) (pss_cons (ps_set (i := 5) sc_law.nd rfl (by first | exact Or.inl rfl | exact Or.inr rfl) (pe_ix (on_ix (K := K)) (pv 3) (pe_nat 1 pe_int) (fun _ _ => rfl))) (pss_cons (ps_set (i := 6) sc_law.nd rfl (by first | exact Or.inl rfl | exact Or.inr rfl) (pe_c c_law_family_of hr (by decide) rfl (pa_cons (pv 1) (pa_cons (pv 4) (pa_cons (pv 5) pa_nil))))) (pss_cons (ps_set (i := 7) sc_law.nd rfl (by first | exact Or.inl rfl | exact Or.inr rfl) (pe_cmpR on_eq (pe_callB call_len_seq (by rfl) B.len (by decide +kernel) (pa_cons (pe_c c_law_breaks hr (by decide) rfl (pa_cons (pv 4) (pa_cons (pv 5) pa_nil))) pa_nil)) (pe_nat 0 pe_int) (nomark _))) (pss_cons (ps_set (i := 8) sc_law.nd rfl (by first | exact Or.inl rfl | exact Or.inr rfl) (pe_c c_law_depths hr (by decide) rfl (pa_cons (pv 4) (pa_cons (pv 5) pa_nil)))) (pss_cons (ps_set (i := 2) sc_law.nd rfl (by first | exact Or.inl rfl | exact Or.inr rfl) (pe_callB (cr_max rfl) (by rfl) B.max (by decide +kernel) (pa_cons (pv 8) pa_nil))) (pss_cons (ps_if (PW.pt (pw_or (pt_cmpR on_ne (pe_c c_deepest hr (by decide) rfl (pa_cons (pv 6) pa_nil)) (pv 2) (nomark _)) (pw_or (pt_cmpR (op_neI m_eqF hne ic.hm hr (by decide)) (pe_c c_within hr (by decide) rfl (pa_cons (pv 6) (pa_cons (pe_nat 0 pe_int) pa_nil))) (pv 6) (nomark _)) (pw_or1 (pt_cmpR (op_neI m_eqF hne ic.hm hr (by decide)) (pe_c c_just_at hr (by decide) rfl (pa_cons (pv 6) (pa_cons (pe_nat 0 pe_int) pa_nil))) (pv 6) (nomark _)))))) (pss_one (ps_ret pe_bl)) pss_nil) (pss_cons (ps_set (i := 9) sc_law.nd rfl (by first | exact Or.inl rfl | exact Or.inr rfl) (pe_c c_law_take hr (by decide) rfl (pa_cons (pv 1) (pa_cons (pe_op on_add (pv 2) (pe_nat 2 pe_int)) pa_nil)))) (pss_cons (ps_set (i := 10) sc_law.nd rfl (by first | exact Or.inl rfl | exact Or.inr rfl) (pe_c c_within hr (by decide) rfl (pa_cons (pv 6) (pa_cons (pv 9) pa_nil)))) (pss_cons (ps_if (pt_not (pt_val (pe_c c_law_is hr (by decide) rfl (pa_cons (pv 10) (pa_cons (pv 4) (pa_cons (pe_lc (own := [("_law_lot_here", 11)]) (g := gName 11) (by rfl) sc_law.nd (pi_range1 rfl B.range (pa_cons (pe_op on_shl (pe_nat 1 pe_int) (pv 4)) pa_nil)) (blkOk_by (own := [("_law_lot_here", 11)]) (N := ["_law_script", "_law_draws_here", "_law_most", "_law_drawn", "_law_size", "_law_masks", "_law_family_here", "_law_gated", "_law_levels", "_law_number_here", "_law_wide", "_law_lot_here", "_law_more", "_law_at", "_law_rows", "_law_far", "_law_row", "_law_near"]) (sc := defScope (top 72)) (by decide +kernel)) (fun _ _ _ _ _ => (pg_name (i := 11) sc_law.nd rfl (by first | exact Or.inl rfl | exact Or.inr rfl))) (fun _ _ _ _ _ => (pts_one (pt_cmpR on_le (pe_ix (on_ix (K := K)) (pv 8) (pv 11) (fun _ _ => rfl)) (pv 9) (nomark _)))) (fun _ _ _ _ _ => (pv 11))) pa_nil)))))) (pss_one (ps_ret pe_bl)) pss_nil) (pss_cons (ps_if (PW.pt (pw_or (pt_cmpR (op_neI m_eqF hne ic.hm hr (by decide)) (pv 10) (pe_op (op_addI m_addF sf hr (by decide)) (pv 6) (pe_cmt m_sized hr (by decide) (C8.pe_gc (v := .ref CF) rfl ⟨.ref CF, hm, rfl⟩) (pa_cons (pv 4) (pa_cons (pe_nat 0 pe_int) (pa_cons (pv 9) pa_nil))))) (nomark _)) (pw_or1 (pt_not (pt_val (pe_c c_law_depths_in hr (by decide) rfl (pa_cons (pv 4) (pa_cons (pv 8) (pa_cons (pv 10) (pa_cons (pv 9) pa_nil)))))))))) (pss_one (ps_ret pe_bl)) pss_nil) (pss_cons (ps_set (i := 12) sc_law.nd rfl (by first | exact Or.inl rfl | exact Or.inr rfl) (pe_ix (on_ix (K := K)) (pe_lst (pa_cons (pe_nat 0 pe_int) (pa_cons (pe_nat 1 pe_int) (pa_cons (pe_nat 2 pe_int) (pa_cons (pe_op op_pow pe_int pe_int) pa_nil))))) (pe_c c_law_take hr (by decide) rfl (pa_cons (pv 1) (pa_cons (pe_nat 4 pe_int) pa_nil))) (fun _ _ => rfl))) (pss_cons (ps_if (PW.pt (pw_or (pt_cmpR (op_neI m_eqF hne ic.hm hr (by decide)) (pe_c c_within hr (by decide) rfl (pa_cons (pv 10) (pa_cons (pv 12) pa_nil))) (pe_c c_within hr (by decide) rfl (pa_cons (pv 6) (pa_cons (pe_op on_add (pv 9) (pv 12)) pa_nil))) (nomark _)) (pw_or1 (pt_cmpR (op_neI m_eqF hne ic.hm hr (by decide)) (pe_c c_within hr (by decide) rfl (pa_cons (pv 10) (pa_cons (pe_nat 1 pe_int) pa_nil))) (pe_c c_within hr (by decide) rfl (pa_cons (pe_c c_within hr (by decide) rfl (pa_cons (pv 6) (pa_cons (pe_nat 1 pe_int) pa_nil))) (pa_cons (pv 9) pa_nil))) (nomark _))))) (pss_one (ps_ret pe_bl)) pss_nil) (pss_cons (ps_if (pt_not (pt_val (pe_c c_law_is hr (by decide) rfl (pa_cons (pe_c c_within hr (by decide) rfl (pa_cons (pv 6) (pa_cons (pe_op op_pow pe_int pe_int) pa_nil))) (pa_cons (pv 4) (pa_cons (pe_listRg rfl (by rfl) B.list (prg_1 rfl B.range (pe_op on_shl (pe_nat 1 pe_int) (pv 4)))) pa_nil)))))) (pss_one (ps_ret pe_bl)) pss_nil) (pss_cons (ps_set (i := 13) sc_law.nd rfl (by first | exact Or.inl rfl | exact Or.inr rfl) (pe_c c_law_take hr (by decide) rfl (pa_cons (pv 1) (pa_cons (pe_op on_add (pv 4) (pe_nat 1 pe_int)) pa_nil)))) (pss_cons (ps_if (pt_not (pt_val (pe_c c_law_just hr (by decide) rfl (pa_cons (pv 4) (pa_cons (pv 5) (pa_cons (pv 6) (pa_cons (pv 13) pa_nil))))))) (pss_one (ps_ret pe_bl)) pss_nil) (pss_cons (ps_set (i := 14) sc_law.nd rfl (by first | exact Or.inl rfl | exact Or.inr rfl) (pe_lst pa_nil)) (pss_cons (ps_for PassesOwn.never rfl (pi_range1 rfl B.range (pa_cons (pe_op on_add (pv 13) (pe_nat 1 pe_int)) pa_nil)) (pg_name (i := 15) sc_law.nd rfl (by first | exact Or.inl rfl | exact Or.inr rfl)) (pss_one (ps_set (i := 14) sc_law.nd rfl (by first | exact Or.inl rfl | exact Or.inr rfl) (pe_op op_cat (pv 14) (pe_lc (own := [("_law_row", 16)]) (g := gName 16) (by rfl) sc_law.nd (pi_tup (pe_fld (pe_c c_just_at hr (by decide) rfl (pa_cons (pv 6) (pa_cons (pv 15) pa_nil))) rfl)) (blkOk_by (own := [("_law_row", 16)]) (N := ["_law_script", "_law_draws_here", "_law_most", "_law_drawn", "_law_size", "_law_masks", "_law_family_here", "_law_gated", "_law_levels", "_law_number_here", "_law_wide", "_law_lot_here", "_law_more", "_law_at", "_law_rows", "_law_far", "_law_row", "_law_near"]) (sc := defScope (top 72)) (by decide +kernel)) (fun _ _ _ _ _ => (pg_name (i := 16) sc_law.nd rfl (by first | exact Or.inl rfl | exact Or.inr rfl))) (fun _ _ _ _ _ => pts_nil) (fun _ _ _ _ _ => (pe_c c_law_number hr (by decide) rfl (pa_cons (pv 16) pa_nil)))))))) (pss_cons (ps_if (pt_not (pt_val (pe_c c_law_is hr (by decide) rfl (pa_cons (pe_c c_within hr (by decide) rfl (pa_cons (pv 6) (pa_cons (pv 13) pa_nil))) (pa_cons (pv 4) (pa_cons (pe_c c_law_listed hr (by decide) rfl (pa_cons (pe_c c_law_inside hr (by decide) rfl (pa_cons (pv 4) (pa_cons (pv 14) pa_nil))) pa_nil)) pa_nil)))))) (pss_one (ps_ret pe_bl)) pss_nil) (pss_cons (ps_set (i := 17) sc_law.nd rfl (by first | exact Or.inl rfl | exact Or.inr rfl) (pe_c c_within hr (by decide) rfl (pa_cons (pv 6) (pa_cons (pe_nat 1 pe_int) pa_nil)))) (pss_cons (ps_if (PW.pt (pw_or (pt_cmp (pc_notN (pe_c c_clash hr (by decide) rfl (pa_cons (pv 6) (pa_cons (pv 6) pa_nil))))) (pw_or (pt_cmp (pc_notN (pe_c c_clash hr (by decide) rfl (pa_cons (pv 6) (pa_cons (pv 17) pa_nil))))) (pw_or1 (pt_not (pt_val (pe_c c_are_neighbours hr (by decide) rfl (pa_cons (pv 17) (pa_cons (pv 6) pa_nil))))))))) (pss_one (ps_ret pe_bl)) pss_nil) (pss_cons (ps_set (i := 15) sc_law.nd rfl (by first | exact Or.inl rfl | exact Or.inr rfl) (pe_c c_within hr (by decide) rfl (pa_cons (pv 6) (pa_cons (pe_nat 2 pe_int) pa_nil)))) (pss_cons (ps_if (PW.pt (pw_or (pt_cmpR op_ne (pe_c c_are_neighbours hr (by decide) rfl (pa_cons (pv 6) (pa_cons (pv 15) pa_nil))) (pe_cmpR on_le (pv 2) (pe_nat 1 pe_int) (nomark _)) (nomark _)) (pw_or1 (pt_cmpR op_ne (pe_cmp (pc_isN (pe_c c_clash hr (by decide) rfl (pa_cons (pv 15) (pa_cons (pv 6) pa_nil)))) rfl) (pe_cmpR on_le (pv 2) (pe_nat 1 pe_int) (nomark _)) (nomark _))))) (pss_one (ps_ret pe_bl)) pss_nil) (pss_cons (ps_if (PW.pt (pw_and (pt_val (pv 7)) (pw_and1 (pt_not (PW.pt (pw_and (pt_val (pe_c c_is_gated hr (by decide) rfl (pa_cons (pv 10) pa_nil))) (pw_and (pt_val (pe_c c_is_gated hr (by decide) rfl (pa_cons (pe_c c_just_at hr (by decide) rfl (pa_cons (pv 6) (pa_cons (pv 13) pa_nil))) pa_nil))) (pw_and1 (pt_val (pe_c c_is_gated hr (by decide) rfl (pa_cons (pv 17) pa_nil))))))))))) (pss_one (ps_ret pe_bl)) pss_nil) (pss_one (ps_ret (pe_c c_law_doors hr (by decide) rfl (pa_cons (pv 4) (pa_cons (pv 6) pa_nil))))))))))))))))))))))))))))))))), ?_⟩
    refine ⟨.ref p, rfl, p, ns, rfl, hs, hz, fun d H1 hd e1 hD => ?_⟩
    refine q_asg (v := .int ((4 : Nat) : Int)) ev_c fun H2 e2 => ?_
    have s2 := (SB.of hD (Ex.refl H1)).ex e2
    refine q_cut (M := fun σ' H' => DrawsAt H' d ∧ ∃ mo : Nat, 4 ≤ mo ∧ mo ≤ 5 ∧ σ' = [some (.ref p), some (.ref d), some (.int (mo : Nat)), none, none, none, none, none, none, none, none, none, none, none, none, none, none, none]) ?_ ?_
    · refine ⟨.ref d, rfl, d, 12, rfl, by decide, s2.dr, fun r H3 hr3 s3 => ⟨r, 11, rfl, rfl, _, rfl, ite2 (fun hb => ?_) (fun _ => ⟨s3.dr, 4, by decide, by decide, rfl⟩)⟩⟩
      exact s_asg (v := .int ((5 : Nat) : Int)) ev_c fun H4 e4 => ⟨s3.dr.ex e4, 5, by decide, by decide, rfl⟩
    rintro σ' H3 ⟨d3, mo, m3, m4, rfl⟩
    refine ⟨.ref d, rfl, .int (mo : Nat), rfl, d, mo, rfl, by omega, by omega, d3, fun size ms pd pm H4 z1 z4 gm hne' _ hpd hpmd s4 h1 h2 => ?_⟩
    have h64 := pow64 (n := size) (by omega)
    have h5 : size ≤ 5 := by omega
    show tSeq _ _ _ [some (.ref p), some (.ref d), some (.int (mo : Nat)), some (.ref pd), none, none, none, none, none, none, none, none, none, none, none, none, none, none] H4
    refine q_asg (ev_ix (sq_of h1) (ev_v 3) ev_c rfl) fun H5 e5 => ?_
    refine q_asg (ev_ix (sq_of (e5 _ _ h1)) (ev_v 3) ev_c rfl) fun H6 e6 => ?_
    have hm6 := e6 _ _ (e5 _ _ h2)
    have d6 := (s4.dr.ex e5).ex e6
    refine q_asgQ (i := 6) ⟨.ref d, rfl, .int (size : Nat), rfl, .ref pm, rfl, d, pm, size, ms, rfl, z1, h5, gm, hne', hm6, hpmd, d6, fun a H7 fm s7 Sf fa => ?_⟩
    have hm7 := s7.kp _ _ hpmd hm6
    have lm := good_len gm (by omega)
    have fs7 : FamS H7 CF a size (· ∈ ms) fm := ⟨fa, Sf.ok, Sf.nd, Sf.up, Sf.iff⟩
    have inms : ∀ m, m ∈ ms → m < 1 <<< size := gm.2
    have okm : FamOk size ms := ⟨z1, h5, hne', inms, lm⟩
    have some_ : ∃ m, m ∈ ms := List.exists_mem_of_ne_nil _ hne'
    have dep : ∀ gm : List Nat, FamOk size gm → (∀ k, k ∈ gm ↔ k ∈ ms) → mostF size gm = mostF size ms := fun gm okg e => by
      unfold mostF
      rw [dep_same okg okm e]
    show tSeq _ _ _ [some (.ref p), some (.ref d), some (.int (mo : Nat)), some (.ref pd), some (.int (size : Nat)), some (.ref pm), some (.ref a), none, none, none, none, none, none, none, none, none, none, none] H7
    -- gated or not
    obtain ⟨b, ib⟩ := em_bool (GatedP size ms)
    refine q_asg (v := .bl b) (ev_brkE (K := K) (ev_v 5) ib (by omega) inms (sq_of hm7)) fun H8 e8 => ?_
    have hm8 := e8 _ _ hm7
    refine q_asgL (el_call (ea_cons (ev_v 4) (ea_cons (ev_v 5) ea_nil)) fun H9 e9 Q9 q9 E9 => ⟨size, pm, ms, rfl, h5, sq_of (e9 _ _ hm8), lm, hne', q9⟩) fun lv H9 hlv e9 h9 => ?_
    have d9 := (s7.dr.ex e8).ex e9
    have hlvd : lv ≠ d := SB.ne (s7.dr.ex e8) hlv
    obtain ⟨m1, m2⟩ := most_of _ (dep_ne (size := size) (fm := ms))
    refine q_asg (ev_maxV (K := K) (ev_v 8) h9 m1 m2) fun H10 e10 => ?_
    show tSeq _ _ _ [some (.ref p), some (.ref d), some (.int ((mostF size ms : Nat) : Int)), some (.ref pd), some (.int (size : Nat)), some (.ref pm), some (.ref a), some (.bl b), some (.ref lv), none, none, none, none, none, none, none, none, none] H10
    have e710 := e8.trans (e9.trans e10)
    have fs10 := fs7.ex e710
    have d10 := d9.ex e10
    have lv10 := e10 _ _ h9
    refine q_when (b := false) (et_is (et_or (et_test (ev_is (ev_n (a := mostF size ms) (b := mostF size ms) (ev_deepest 6 fs10 (dep fm Sf.ok Sf.iff)) (ev_v 2)) (show V.bl (!decide (mostF size ms = mostF size ms)) = V.bl false by simp))) fun _ => et_or (et_test (ev_neFam (evf_within (evf_v 6 fs10) ev_c) (evf_v 6 fs10) (in_zero inms h5))) fun _ => et_test (ev_neFam (evf_just (evf_v 6 fs10) ev_c (Nat.zero_le _)) (evf_v 6 fs10) (jus_zero inms h5))) rfl) (fun hb => absurd hb (by decide)) (fun _ H11 e11 => ?_)
    have d11 := d10.ex e11
    refine r_asg (a := d) d11 (er_take 1 (er_n (er_v 2) (er_c (n := 2))) (by rintro n ⟨x, y, rfl, rfl, rfl⟩; omega)) fun nb H12 _ s12 => ?_
    have fs12 := (fs10.ex e11).sbd d11 s12
    have lv12 := s12.kp _ _ hlvd (e11 _ _ lv10)
    have pm12 := s12.kp _ _ hpmd (e11 _ _ (e10 _ _ (e9 _ _ hm8)))
    show tSeq _ _ _ [some (.ref p), some (.ref d), some (.int ((mostF size ms : Nat) : Int)), some (.ref pd), some (.int (size : Nat)), some (.ref pm), some (.ref a), some (.bl b), some (.ref lv), some (.int (nb : Nat)), none, none, none, none, none, none, none, none] H12
    refine q_asgFam (evf_within (evf_v 6 fs12) (ev_v 9)) fun wd wm H13 e13 ws13 => ?_
    show tSeq _ _ _ [some (.ref p), some (.ref d), some (.int ((mostF size ms : Nat) : Int)), some (.ref pd), some (.int (size : Nat)), some (.ref pm), some (.ref a), some (.bl b), some (.ref lv), some (.int (nb : Nat)), some (.ref wd), none, none, none, none, none, none, none] H13
    have fs13 := fs12.ex e13
    have lv13 := e13 _ _ lv12
    have el := el_rng (n := 1 <<< size) (ta := tCons (tOp (rN (fun a b => a < 64 ∧ b < 64) fun a b => .int ((a <<< b : Nat) : Int)) (tC (.int ((1 : Nat) : Int))) (tVar 4)) tNil) (te := tVar 11) (t := tTest (tOp (rN0 fun a b => .bl (decide (a ≤ b))) (tOp (rIxN K) (tVar 8) (tVar 11)) (tVar 9))) (j := 11) (vs := [11]) (σ := [some (.ref p), some (.ref d), some (.int ((mostF size ms : Nat) : Int)), some (.ref pd), some (.int (size : Nat)), some (.ref pm), some (.ref a), some (.bl b), some (.ref lv), some (.int (nb : Nat)), some (.ref wd), none, none, none, none, none, none, none]) (H := H13) (fun t => decide (rkF ms t ≤ nb)) (fun t => .int (t : Nat)) (ea_cons (ev_nc ev_c (ev_v 4) ⟨by decide, by omega⟩) ea_nil) (by omega) (fun _ => rfl) (fun t H14 e14 ht => et_test (ev_n (ev_ix (K := K) (sq_of (e14 _ _ lv13)) (ev_v 8) (ev_v 11) (nv_rng ht)) (ev_v 9))) (fun t H14 e14 ht _ => ev_v 11)
    have memW : ∀ k, k ∈ (List.range (1 <<< size)).filter (fun t => decide (rkF ms t ≤ nb)) ↔ inS size (· ∈ ms) nb k := fun k => by
      rw [List.mem_filter, List.mem_range, decide_eq_true_eq, in_same okm (fun _ => Iff.rfl)]
      rfl
    have lenW : ((List.range (1 <<< size)).filter (fun t => decide (rkF ms t ≤ nb))).length ≤ 64 := by
      have := List.length_filter_le (fun t => decide (rkF ms t ≤ nb)) (List.range (1 <<< size))
      rw [List.length_range] at this
      omega
    refine q_when (b := !true) (et_not (et_B (ev_lawIs (K := K) (ms := (List.range (1 <<< size)).filter (fun t => decide (rkF ms t ≤ nb))) (evf_v 10 ws13) (ev_v 4) el (List.nodup_range.filter _) lenW memW))) (fun hb => absurd hb (by decide)) (fun _ H14 e14 => ?_)
    have fs14 := fs13.ex e14
    have ws14 := ws13.ex e14
    have lv14 := e14 _ _ lv13
    have rkW : ∀ t, t < 1 <<< size → rkF wm t = rkF ms t - nb := fun t ht => rk_within okm ws14.ok (fun m => (ws14.iff m).trans (in_same okm fun _ => Iff.rfl)) ht
    refine q_when (b := false) (et_is (et_or (et_test (ev_neFam (evf_v 10 ws14) (evf_add (evf_v 6 fs14) (evf_sized (ev_v 4) ev_c (ev_v 9) z1 h5 ⟨0, by unfold sizK; exact ⟨by rw [Nat.one_shiftLeft]; exact Nat.two_pow_pos size, Nat.zero_le _, by rw [show bits 0 = 0 from by decide]; exact Nat.zero_le _⟩⟩)) fun m => (in_sum inms m).symm)) fun _ => et_not (et_B (ev_call (ea_cons (ev_v 4) (ea_cons (ev_v 8) (ea_cons (ev_v 10) (ea_cons (ev_v 9) ea_nil)))) fun H15 e15 Q15 q15 E15 => ⟨wd, lv, size, nb, ms, wm, rfl, ws14.at_.ex e15, ws14.ok, sq_of (e15 _ _ lv14), rkW, q15⟩))) rfl) (fun hb => absurd hb (by decide)) (fun _ H15 e15 => ?_)
    have fs15 := fs14.ex e15
    have ws15 := ws14.ex e15
    have d15 := ((s12.dr.ex e13).ex e14).ex e15
    have pm15 := e15 _ _ (e14 _ _ (e13 _ _ pm12))
    refine q_asgQ (i := 12) (el_lst (ea_cons ev_c (ea_cons ev_c (ea_cons ev_c (ea_cons (ev_n28 ⟨by decide, by decide, by decide⟩) ea_nil)))) (by decide) H15 (Ex.refl _) _ fun ml H16 hml e16 h16 => ⟨.ref d, rfl, d, 4, rfl, by decide, d15.ex e16, fun r H17 hr s17 => ?_⟩)
    have hmld : ml ≠ d := SB.ne d15 hml
    have more_ : ∃ more : Nat, ([.int ((0 : Nat) : Int), .int ((1 : Nat) : Int), .int ((2 : Nat) : Int), .int ((N28 : Nat) : Int)] : List V)[r]? = some (.int (more : Nat)) := by
      match r, hr with
      | 0, _ => exact ⟨0, rfl⟩
      | 1, _ => exact ⟨1, rfl⟩
      | 2, _ => exact ⟨2, rfl⟩
      | 3, _ => exact ⟨N28, rfl⟩
    obtain ⟨more, hmore⟩ := more_
    have d16 := d15.ex e16
    refine ⟨ml, _, r, .int (more : Nat), rfl, rfl, sq_of (s17.kp _ _ hmld h16), hmore, ?_⟩
    show tSeq _ _ _ [some (.ref p), some (.ref d), some (.int ((mostF size ms : Nat) : Int)), some (.ref pd), some (.int (size : Nat)), some (.ref pm), some (.ref a), some (.bl b), some (.ref lv), some (.int (nb : Nat)), some (.ref wd), none, some (.int (more : Nat)), none, none, none, none, none] H17
    have fs17 := (fs15.ex e16).sbd d16 s17
    have ws17 := (ws15.ex e16).sbd d16 s17
    have pm17 := s17.kp _ _ hpmd (e16 _ _ pm15)
    refine q_when (b := false) (et_is (et_or (et_test (ev_neFam (evf_within (evf_v 10 ws17) (ev_v 12)) (evf_within (evf_v 6 fs17) (ev_n (ev_v 9) (ev_v 12))) (in_in inms h5))) fun _ => et_test (ev_neFam (evf_within (evf_v 10 ws17) ev_c) (evf_within (evf_within (evf_v 6 fs17) ev_c) (ev_v 9)) fun m => ((in_in inms h5 m).trans (by rw [Nat.add_comm])).trans (in_in inms h5 m).symm)) rfl) (fun hb => absurd hb (by decide)) (fun _ H18 e18 => ?_)
    have fs18 := fs17.ex e18
    refine q_when (b := !true) (et_not (et_B (ev_lawIs (K := K) (ms := List.range (1 <<< size)) (evf_within (evf_v 6 fs18) (ev_n28 ⟨by decide, by decide, by decide⟩)) (ev_v 4) (el_listRg (ev_nc ev_c (ev_v 4) ⟨by decide, by omega⟩) (by omega)) List.nodup_range (by rw [List.length_range]; exact h64) fun k => by rw [List.mem_range]; exact (in_big some_ inms h5 k).symm))) (fun hb => absurd hb (by decide)) (fun _ H19 e19 => ?_)
    have d19 := (s17.dr.ex e18).ex e19
    refine r_asg (a := d) d19 (er_take 1 (er_n (er_v 4) (er_c (n := 1))) (by rintro n ⟨x, y, rfl, rfl, rfl⟩; omega)) fun at_ H20 hat s20 => ?_
    have hat : at_ ≤ size := by
      obtain ⟨n, ⟨x, y, rfl, rfl, rfl⟩, h⟩ := hat
      omega
    have fs20 := (fs18.ex e19).sbd d19 s20
    have ws20 := ((ws17.ex e18).ex e19).sbd d19 s20
    have pm20 := s20.kp _ _ hpmd (e19 _ _ (e18 _ _ pm17))
    show tSeq _ _ _ [some (.ref p), some (.ref d), some (.int ((mostF size ms : Nat) : Int)), some (.ref pd), some (.int (size : Nat)), some (.ref pm), some (.ref a), some (.bl b), some (.ref lv), some (.int (nb : Nat)), some (.ref wd), none, some (.int (more : Nat)), some (.int (at_ : Nat)), none, none, none, none] H20
    refine q_when (b := !true) (et_not (et_B (ev_call (ea_cons (ev_v 4) (ea_cons (ev_v 5) (ea_cons (ev_v 6) (ea_cons (ev_v 13) ea_nil)))) fun H21 e21 Q21 q21 E21 => ⟨pm, a, size, at_, fm, ms, rfl, fs20.ex e21, sq_of (e21 _ _ pm20), lm, hat, q21⟩))) (fun hb => absurd hb (by decide)) (fun _ H21 e21 => ?_)
    have fs21 := fs20.ex e21
    refine q_asgL (xs := nv []) (el_lst ea_nil (by decide)) fun r0 H22 hr0 e22 h22 => ?_
    refine q_forR1 (n := ((at_ + 1 : Nat) : Int)) (ea_cons (ev_n (ev_v 13) ev_c) ea_nil) (by omega) (fun i σ H' => Ex H21 H' ∧ ∃ (r : Addr) (R : List Nat) (v15 v16 : Option V), σ = [some (.ref p), some (.ref d), some (.int ((mostF size ms : Nat) : Int)), some (.ref pd), some (.int (size : Nat)), some (.ref pm), some (.ref a), some (.bl b), some (.ref lv), some (.int (nb : Nat)), some (.ref wd), none, some (.int (more : Nat)), some (.int (at_ : Nat)), some (.ref r), v15, v16, none] ∧ H' r = some (.lst (nv R)) ∧ R.length ≤ 40 * i ∧ ∀ k, k ∈ R ↔ ∃ j, j < i ∧ jusS size (· ∈ ms) j k) (fun H23 e23 => ⟨e22.trans e23, r0, [], _, _, rfl, e23 _ _ h22, by decide, fun k => ⟨fun h => (by cases h), fun ⟨j, hj, _⟩ => (by omega)⟩⟩) ?_ ?_
    · rintro i σ H' hi ⟨ex, r, R, v15, v16, rfl, hr, hl, hR⟩
      have hi : i < at_ + 1 := by exact_mod_cast hi
      have fs' := fs21.ex ex
      refine ⟨_, rfl, ?_⟩
      refine el_famNums C (evf_just (evf_v 6 fs') (ev_v 15) (by omega)) (fun _ => rfl) (fun _ => rfl) H' (Ex.refl _) _ fun p2 jm H24 hp2 e24 h24 l24 i24 => ?_
      refine ⟨r, p2, nv R, nv jm, rfl, rfl, e24 _ _ hr, h24, sz_of (by rw [nv_len, nv_len]; omega), fun r2 hr2 => ?_⟩
      have eu := Ex.new (o := .lst (nv R ++ nv jm)) hr2
      refine ⟨ex.trans (e24.trans eu), r2, R ++ jm, _, _, rfl, by rw [upd_same]; unfold nv; rw [List.map_append], by rw [List.length_append]; omega, fun k => ?_⟩
      rw [List.mem_append, hR, i24]
      constructor
      · rintro (⟨j, hj, z⟩ | z)
        · exact ⟨j, by omega, z⟩
        · exact ⟨i, by omega, z⟩
      · rintro ⟨j, hj, z⟩
        by_cases e : j = i
        · subst e; exact .inr z
        · exact .inl ⟨j, by omega, z⟩
    rintro σ' H23 ⟨ex, r, R, v15, v16, rfl, hr, hl, hR⟩
    have eN : ((at_ + 1 : Nat) : Int).toNat = at_ + 1 := by omega
    rw [eN] at hl hR
    have fs23 := fs21.ex ex
    have ws23 := (ws20.ex e21).ex ex
    have inR : ∀ m ∈ R, m < 1 <<< size := fun m hm => by
      obtain ⟨j, _, z⟩ := (hR m).mp hm
      exact z.1
    have gL : Good size (listF (insF size R)) := good_list (by unfold insF; rw [List.length_map, List.length_range])
    refine q_when (b := !true) (et_not (et_B (ev_lawIs (K := K) (ms := listF (insF size R)) (evf_within (evf_v 6 fs23) (ev_v 13)) (ev_v 4) (el_listIns h5 (sq_of hr) inR) (gL.1.imp fun h => by omega) (good_len gL (by omega)) fun k => by
      rw [mem_listed, hR, ← jus_sum]
      exact ⟨fun ⟨_, j, hj, z⟩ => ⟨j, by omega, z⟩, fun ⟨j, hj, z⟩ => ⟨z.1, j, by omega, z⟩⟩))) (fun hb => absurd hb (by decide)) (fun _ H24 e24 => ?_)
    refine q_asgFam (evf_within (evf_v 6 (fs23.ex e24)) ev_c) fun nr nm H25 e25 ns25 => ?_
    show tSeq _ _ _ [some (.ref p), some (.ref d), some (.int ((mostF size ms : Nat) : Int)), some (.ref pd), some (.int (size : Nat)), some (.ref pm), some (.ref a), some (.bl b), some (.ref lv), some (.int (nb : Nat)), some (.ref wd), none, some (.int (more : Nat)), some (.int (at_ : Nat)), some (.ref r), v15, v16, some (.ref nr)] H25
    have fs25 := (fs23.ex e24).ex e25
    refine q_when (b := false) (et_is (et_or (et_clashSome (evf_v 6 fs25) (evf_v 6 fs25) (nb_self fun _ => Iff.rfl)) fun _ => et_or (et_clashSome (evf_v 6 fs25) (evf_v 17 ns25) nb_near) fun _ => et_not (et_B (ev_nbFam (evf_v 17 ns25) (evf_v 6 fs25) nb_near2))) rfl) (fun hb => absurd hb (by decide)) (fun _ H26 e26 => ?_)
    refine q_asgFam (evf_within (evf_v 6 (fs25.ex e26)) ev_c) fun fa2 m2' H27 e27 xs27 => ?_
    show tSeq _ _ _ [some (.ref p), some (.ref d), some (.int ((mostF size ms : Nat) : Int)), some (.ref pd), some (.int (size : Nat)), some (.ref pm), some (.ref a), some (.bl b), some (.ref lv), some (.int (nb : Nat)), some (.ref wd), none, some (.int (more : Nat)), some (.int (at_ : Nat)), some (.ref r), some (.ref fa2), v16, some (.ref nr)] H27
    have fs27 := (fs25.ex e26).ex e27
    refine q_when (b := false) (et_is (et_or (et_test (ev_neB (ev_nbFam (evf_v 6 fs27) (evf_v 15 xs27) (nb_far dep)) (ev_n (ev_v 2) ev_c))) fun _ => et_test (ev_neB (ev_clashIs (evf_v 15 xs27) (evf_v 6 fs27) (nb_far2 dep)) (ev_n (ev_v 2) ev_c))) rfl) (fun hb => absurd hb (by decide)) (fun _ H28 e28 => ?_)
    have fs28 := fs27.ex e28
    have all28 := e24.trans (e25.trans (e26.trans (e27.trans e28)))
    have ws28 := ws23.ex all28
    have ns28 := ns25.ex (e26.trans (e27.trans e28))
    refine q_when (b := false) (et_is (et_and (et_B (ev_v 7)) fun hb => et_not (et_and (et_B (ev_gatFam (b := true) (evf_v 10 ws28) fun gm ok e => ⟨fun _ => rows_of ok e (in_ex inms h5 (EX_of_gated inms (ib.mp hb))), fun _ => rfl⟩)) fun _ => et_and (et_B (ev_gatFam (b := true) (evf_just (evf_v 6 fs28) (ev_v 13) hat) fun gm ok e => ⟨fun _ => rows_of ok e (jus_ex inms h5 (EX_of_gated inms (ib.mp hb))), fun _ => rfl⟩)) fun _ => et_B (ev_gatFam (b := true) (evf_v 17 ns28) fun gm ok e => ⟨fun _ => rows_of ok e (in_ex inms h5 (EX_of_gated inms (ib.mp hb))), fun _ => rfl⟩))) (by cases b <;> rfl)) (fun hb => absurd hb (by decide)) (fun _ H29 e29 => ?_)
    exact s_ret (ev_call (ea_cons (ev_v 4) (ea_cons (ev_v 6) ea_nil)) fun H30 e30 Q30 q30 E30 => ⟨a, size, fm, rfl, (fs28.ex e29).at_.ex e30, fs28.ok, q30⟩) fun H30 _ => q H30
end
end W7
end
section
namespace W7
theorem chk5_0 : ((List.range 32).map fun i => 0 + i).all (chkW 5) = true := by decide +kernel
theorem chk5_1 : ((List.range 32).map fun i => 32 + i).all (chkW 5) = true := by decide +kernel
theorem chk5_2 : ((List.range 32).map fun i => 64 + i).all (chkW 5) = true := by decide +kernel
theorem chk5_3 : ((List.range 32).map fun i => 96 + i).all (chkW 5) = true := by decide +kernel
theorem chk5_4 : ((List.range 32).map fun i => 128 + i).all (chkW 5) = true := by decide +kernel
theorem chk5_5 : ((List.range 32).map fun i => 160 + i).all (chkW 5) = true := by decide +kernel
theorem chk5_6 : ((List.range 32).map fun i => 192 + i).all (chkW 5) = true := by decide +kernel
theorem chk5_7 : ((List.range 32).map fun i => 224 + i).all (chkW 5) = true := by decide +kernel
theorem chk5_8 : ((List.range 32).map fun i => 256 + i).all (chkW 5) = true := by decide +kernel
theorem chk5_9 : ((List.range 32).map fun i => 288 + i).all (chkW 5) = true := by decide +kernel
theorem chk5_10 : ((List.range 32).map fun i => 320 + i).all (chkW 5) = true := by decide +kernel
theorem chk5_11 : ((List.range 32).map fun i => 352 + i).all (chkW 5) = true := by decide +kernel
theorem chk5_12 : ((List.range 32).map fun i => 384 + i).all (chkW 5) = true := by decide +kernel
theorem chk5_13 : ((List.range 32).map fun i => 416 + i).all (chkW 5) = true := by decide +kernel
theorem chk5_14 : ((List.range 32).map fun i => 448 + i).all (chkW 5) = true := by decide +kernel
theorem chk5_15 : ((List.range 32).map fun i => 480 + i).all (chkW 5) = true := by decide +kernel
theorem chk5_16 : ((List.range 32).map fun i => 512 + i).all (chkW 5) = true := by decide +kernel
theorem chk5_17 : ((List.range 32).map fun i => 544 + i).all (chkW 5) = true := by decide +kernel
theorem chk5_18 : ((List.range 32).map fun i => 576 + i).all (chkW 5) = true := by decide +kernel
theorem chk5_19 : ((List.range 32).map fun i => 608 + i).all (chkW 5) = true := by decide +kernel
theorem chk5_20 : ((List.range 32).map fun i => 640 + i).all (chkW 5) = true := by decide +kernel
theorem chk5_21 : ((List.range 32).map fun i => 672 + i).all (chkW 5) = true := by decide +kernel
theorem chk5_22 : ((List.range 32).map fun i => 704 + i).all (chkW 5) = true := by decide +kernel
theorem chk5_23 : ((List.range 32).map fun i => 736 + i).all (chkW 5) = true := by decide +kernel
theorem chk5_24 : ((List.range 32).map fun i => 768 + i).all (chkW 5) = true := by decide +kernel
theorem chk5_25 : ((List.range 32).map fun i => 800 + i).all (chkW 5) = true := by decide +kernel
theorem chk5_26 : ((List.range 32).map fun i => 832 + i).all (chkW 5) = true := by decide +kernel
theorem chk5_27 : ((List.range 32).map fun i => 864 + i).all (chkW 5) = true := by decide +kernel
theorem chk5_28 : ((List.range 32).map fun i => 896 + i).all (chkW 5) = true := by decide +kernel
theorem chk5_29 : ((List.range 32).map fun i => 928 + i).all (chkW 5) = true := by decide +kernel
theorem chk5_30 : ((List.range 32).map fun i => 960 + i).all (chkW 5) = true := by decide +kernel
theorem chk5_31 : ((List.range 32).map fun i => 992 + i).all (chkW 5) = true := by decide +kernel
end W7
end
section
namespace W7
open PySem PySem.Spec PyProof.Rows L2 L3 Evl ClX
theorem cmB_ok {K : PySem.W.Frag} {C : Addr} {m : PySem.Str} (h : Hd.cmB K C m = true) : CRead K C (.type "type") ∧ CMet K C (.type "type") m (Hd.cmP K C m) (Hd.cmG K (Hd.cmP K C m)) := by
  unfold Hd.cmB at h
  obtain ⟨h1, h⟩ := He.ba h
  obtain ⟨h2, h⟩ := He.ba h
  obtain ⟨h3, h⟩ := He.ba h
  obtain ⟨h4, h5⟩ := He.ba h
  refine ⟨⟨h4, He.eqO_ok h5⟩, ?_, ?_, h3⟩
  · unfold Hd.cmP
    cases e : PySem.W.findCls K (.ref C) (.type "type") m with
    | none => rw [e] at h1; cases h1
    | some o =>
      rw [e] at h1
      split at h1
      · rename_i b p C' e2
        cases e2
        obtain ⟨hb, hc⟩ := He.ba h1
        have hb := of_decide_eq_true hb
        have hc := of_decide_eq_true hc
        subst hb; subst hc
        simp
      · cases h1
  · unfold Hd.cmG
    cases e : PySem.W.recIn K (Hd.cmP K C m) "classmethod" with
    | none => (rw [e] at h2; cases h2)
    | some l =>
      rw [e] at h2
      split at h2
      · rename_i g rest e2
        cases e2
        exact ⟨rest, rfl⟩
      · cases h2
theorem errB_ok {K : PySem.W.Frag} {mg : PySem.Str → Option Value} {C L : Addr} {x f : PySem.Str} (here : mg x = some (.ref C)) (h : Hd.errB K C L f = true) (init : ∃ (fd : FuncData) (qual : PySem.Str) (st : Stmt), FunD K "__init__" qual (defArgs st) (defBody st) (defScope st) [] [] (He.ma K C "__init__") fd ∧ Xc.OneField st f) : Xc.ErrC K mg x f C ∧ PySem.W.kitOne K (.ref C) (.ref L) = some true := by
  obtain ⟨fd, qual, st, F, O⟩ := init
  unfold Hd.errB at h
  obtain ⟨a1, h⟩ := He.ba h
  obtain ⟨a2, h⟩ := He.ba h
  obtain ⟨a3, h⟩ := He.ba h
  obtain ⟨a4, h⟩ := He.ba h
  obtain ⟨a5, h⟩ := He.ba h
  obtain ⟨a6, h⟩ := He.ba h
  obtain ⟨a7, h⟩ := He.ba h
  obtain ⟨a8, h⟩ := He.ba h
  obtain ⟨a9, h⟩ := He.ba h
  obtain ⟨a10, h⟩ := He.ba h
  obtain ⟨a11, h⟩ := He.ba h
  obtain ⟨a12, h⟩ := He.ba h
  obtain ⟨a13, h⟩ := He.ba h
  obtain ⟨a14, h⟩ := He.ba h
  obtain ⟨a15, h⟩ := He.ba h
  obtain ⟨a16, h⟩ := He.ba h
  obtain ⟨a17, h⟩ := He.ba h
  obtain ⟨a18, a19⟩ := He.ba h
  exact ⟨⟨here, a1, a2, He.eqO_ok a3, of_decide_eq_true a4, He.eqO_ok a5, a6, of_decide_eq_true a7, of_decide_eq_true a8, a9, He.eqO_ok a12, He.eqO_ok a13, He.eqO_ok a14, He.eqO_ok a15, of_decide_eq_true a16, of_decide_eq_true a17, of_decide_eq_true a18, ⟨_, fd, qual, st, He.eqO_ok a10, of_decide_eq_true a11, F, O⟩⟩, of_decide_eq_true a19⟩
theorem one_bad : Xc.OneField (inClass (top 5) 0) "name" := by
  refine ⟨⟨_, _, _, _, rfl⟩, by first | rfl | decide +kernel, by first | rfl | decide +kernel, by first | rfl | decide +kernel, by first | rfl | decide +kernel, by first | rfl | decide +kernel, by first | rfl | decide +kernel, by decide +kernel, ?_⟩
  intro s x qual kV doc pm cdv ct an u v
  exact .of_eq rfl
end W7
end
section
namespace W7
open PySem PySem.Spec PyProof.Rows L2 L3 ClX
theorem chk5_all : ∀ c, c < 1024 → chkW 5 c = true := by
  intro c hc
  have key : ∀ k : Nat, ((List.range 32).map fun i => k * 32 + i).all (chkW 5) = true → ∀ c, k * 32 ≤ c → c < k * 32 + 32 → chkW 5 c = true := fun k h c h1 h2 =>
    List.all_eq_true.mp h c (List.mem_map.mpr ⟨c - k * 32, List.mem_range.mpr (by omega), by omega⟩)
  by_cases h0 : c < 32
  · exact key 0 chk5_0 c (by omega) (by omega)
  by_cases h1 : c < 64
  · exact key 1 chk5_1 c (by omega) (by omega)
  by_cases h2 : c < 96
  · exact key 2 chk5_2 c (by omega) (by omega)
  by_cases h3 : c < 128
  · exact key 3 chk5_3 c (by omega) (by omega)
  by_cases h4 : c < 160
  · exact key 4 chk5_4 c (by omega) (by omega)
  by_cases h5 : c < 192
  · exact key 5 chk5_5 c (by omega) (by omega)
  by_cases h6 : c < 224
  · exact key 6 chk5_6 c (by omega) (by omega)
  by_cases h7 : c < 256
  · exact key 7 chk5_7 c (by omega) (by omega)
  by_cases h8 : c < 288
  · exact key 8 chk5_8 c (by omega) (by omega)
  by_cases h9 : c < 320
  · exact key 9 chk5_9 c (by omega) (by omega)
  by_cases h10 : c < 352
  · exact key 10 chk5_10 c (by omega) (by omega)
  by_cases h11 : c < 384
  · exact key 11 chk5_11 c (by omega) (by omega)
  by_cases h12 : c < 416
  · exact key 12 chk5_12 c (by omega) (by omega)
  by_cases h13 : c < 448
  · exact key 13 chk5_13 c (by omega) (by omega)
  by_cases h14 : c < 480
  · exact key 14 chk5_14 c (by omega) (by omega)
  by_cases h15 : c < 512
  · exact key 15 chk5_15 c (by omega) (by omega)
  by_cases h16 : c < 544
  · exact key 16 chk5_16 c (by omega) (by omega)
  by_cases h17 : c < 576
  · exact key 17 chk5_17 c (by omega) (by omega)
  by_cases h18 : c < 608
  · exact key 18 chk5_18 c (by omega) (by omega)
  by_cases h19 : c < 640
  · exact key 19 chk5_19 c (by omega) (by omega)
  by_cases h20 : c < 672
  · exact key 20 chk5_20 c (by omega) (by omega)
  by_cases h21 : c < 704
  · exact key 21 chk5_21 c (by omega) (by omega)
  by_cases h22 : c < 736
  · exact key 22 chk5_22 c (by omega) (by omega)
  by_cases h23 : c < 768
  · exact key 23 chk5_23 c (by omega) (by omega)
  by_cases h24 : c < 800
  · exact key 24 chk5_24 c (by omega) (by omega)
  by_cases h25 : c < 832
  · exact key 25 chk5_25 c (by omega) (by omega)
  by_cases h26 : c < 864
  · exact key 26 chk5_26 c (by omega) (by omega)
  by_cases h27 : c < 896
  · exact key 27 chk5_27 c (by omega) (by omega)
  by_cases h28 : c < 928
  · exact key 28 chk5_28 c (by omega) (by omega)
  by_cases h29 : c < 960
  · exact key 29 chk5_29 c (by omega) (by omega)
  by_cases h30 : c < 992
  · exact key 30 chk5_30 c (by omega) (by omega)
  by_cases h31 : c < 1024
  · exact key 31 chk5_31 c (by omega) (by omega)
  omega
theorem chk1 : (List.range 1).all (chkW 1) = true := by decide +kernel
theorem chk2 : (List.range 2).all (chkW 2) = true := by decide +kernel
theorem chk3 : (List.range 8).all (chkW 3) = true := by decide +kernel
theorem chk4 : (List.range 64).all (chkW 4) = true := by decide +kernel
theorem pairs_gated : PairGated := pair_gated fun size h1 h5 c hc => by
  match size, h1, h5 with
  | 1, _, _ => exact List.all_eq_true.mp chk1 c (List.mem_range.mpr hc)
  | 2, _, _ => exact List.all_eq_true.mp chk2 c (List.mem_range.mpr hc)
  | 3, _, _ => exact List.all_eq_true.mp chk3 c (List.mem_range.mpr hc)
  | 4, _, _ => exact List.all_eq_true.mp chk4 c (List.mem_range.mpr hc)
  | 5, _, _ => exact chk5_all c hc

theorem facts {P : Program} {w : World} {K : PySem.W.Frag} {h : Heap} {mg : Str → Option Value} {f : Addr} (X : K.In h) (G : h.Ns mainGlobals mg) (hfa : mg ("law" : Str) = some (.ref f)) (c : He.SaysD Hd.fa Hd.fn K) (cm : Hd.moreB K = true ∧ He5.fnA K (Hd.dA0.at_ K) = Hd.dA0.val) :
    ∃ fd : FuncData, (∀ (s : Shared) (v : Value), BindsTo s fd ⟨[v], []⟩ [("_law_script", v)]) ∧ ∀ base : Heap, K.In base → base.Ns mainGlobals mg → FnOk P w K mg base CX0 10 f fd ["_law_script"] (spLaw K) := by
  obtain ⟨fd0, F0⟩ := c.def_ 0 (d := Hd.d0) rfl
  have g0 := He.glo_ok X G (c.fact 0 (f := .glo "is_int") rfl)
  obtain ⟨fd1, F1⟩ := c.def_ 1 (d := Hd.d1) rfl
  have g1 := He.glo_ok X G (c.fact 1 (f := .glo "is_list") rfl)
  obtain ⟨fd2, F2⟩ := c.def_ 2 (d := Hd.d2) rfl
  have g2 := He.glo_ok X G (c.fact 2 (f := .glo "wrong_entry") rfl)
  obtain ⟨fd3, F3⟩ := c.def_ 3 (d := Hd.d3) rfl
  have g3 := He.glo_ok X G (c.fact 3 (f := .glo "is_lot") rfl)
  obtain ⟨fd4, F4⟩ := c.def_ 4 (d := Hd.d4) rfl
  have g4 := He.glo_ok X G (c.fact 4 (f := .glo "lot_of") rfl)
  obtain ⟨fd5, F5⟩ := c.def_ 5 (d := Hd.d5) rfl
  have g5 := He.glo_ok X G (c.fact 5 (f := .glo "check_number") rfl)
  obtain ⟨fd6, F6⟩ := c.def_ 6 (d := Hd.d6) rfl
  have g6 := He.glo_ok X G (c.fact 6 (f := .glo "check_any_number") rfl)
  obtain ⟨fd7, F7⟩ := c.def_ 7 (d := Hd.d7) rfl
  have g7 := He.glo_ok X G (c.fact 7 (f := .glo "mask_of") rfl)
  obtain ⟨fd8, F8⟩ := c.def_ 8 (d := Hd.d8) rfl
  have g8 := He.glo_ok X G (c.fact 8 (f := .glo "lot_from") rfl)
  obtain ⟨fd9, F9⟩ := c.def_ 9 (d := Hd.d9) rfl
  have g9 := He.glo_ok X G (c.fact 9 (f := .glo "lots_from") rfl)
  obtain ⟨fd10, F10⟩ := c.def_ 10 (d := Hd.d10) rfl
  have g10 := He.glo_ok X G (c.fact 10 (f := .glo "ordered_masks") rfl)
  obtain ⟨fd11, F11⟩ := c.def_ 11 (d := Hd.d11) rfl
  have g11 := He.glo_ok X G (c.fact 11 (f := .glo "mask_sums") rfl)
  obtain ⟨fd12, F12⟩ := c.def_ 12 (d := Hd.d12) rfl
  have g12 := He.glo_ok X G (c.fact 12 (f := .glo "thing_counts") rfl)
  obtain ⟨fd13, F13⟩ := c.def_ 13 (d := Hd.d13) rfl
  have g13 := He.glo_ok X G (c.fact 13 (f := .glo "family_masks") rfl)
  obtain ⟨fd14, F14⟩ := c.def_ 14 (d := Hd.d14) rfl
  have g14 := He.glo_ok X G (c.fact 14 (f := .glo "inside_row") rfl)
  obtain ⟨fd15, F15⟩ := c.def_ 15 (d := Hd.d15) rfl
  have g15 := He.glo_ok X G (c.fact 15 (f := .glo "depth_row") rfl)
  obtain ⟨fd16, F16⟩ := c.def_ 16 (d := Hd.d16) rfl
  have g16 := He.glo_ok X G (c.fact 16 (f := .glo "contains_one") rfl)
  obtain ⟨fd17, F17⟩ := c.def_ 17 (d := Hd.d17) rfl
  have g17 := He.glo_ok X G (c.fact 17 (f := .glo "check_family_size") rfl)
  obtain ⟨fd18, F18⟩ := c.def_ 18 (d := Hd.d18) rfl
  have g18 := He.glo_ok X G (c.fact 18 (f := .glo "checked_rows") rfl)
  obtain ⟨fd19, F19⟩ := c.def_ 19 (d := Hd.d19) rfl
  have g19 := He.glo_ok X G (c.fact 19 (f := .glo "within") rfl)
  obtain ⟨fd20, F20⟩ := c.def_ 20 (d := Hd.d20) rfl
  have g20 := He.glo_ok X G (c.fact 20 (f := .glo "just_at") rfl)
  obtain ⟨fd21, F21⟩ := c.def_ 21 (d := Hd.d21) rfl
  have g21 := He.glo_ok X G (c.fact 21 (f := .glo "lowering_mask") rfl)
  obtain ⟨fd22, F22⟩ := c.def_ 22 (d := Hd.d22) rfl
  have g22 := He.glo_ok X G (c.fact 22 (f := .glo "ungated_rows") rfl)
  obtain ⟨fd23, F23⟩ := c.def_ 23 (d := Hd.d23) rfl
  have g23 := He.glo_ok X G (c.fact 23 (f := .glo "first_break") rfl)
  obtain ⟨fd24, F24⟩ := c.def_ 24 (d := Hd.d24) rfl
  have g24 := He.glo_ok X G (c.fact 24 (f := .glo "find_break") rfl)
  obtain ⟨fd25, F25⟩ := c.def_ 25 (d := Hd.d25) rfl
  have g25 := He.glo_ok X G (c.fact 25 (f := .glo "is_gated") rfl)
  obtain ⟨fd26, F26⟩ := c.def_ 26 (d := Hd.d26) rfl
  have g26 := He.glo_ok X G (c.fact 26 (f := .glo "depth_of") rfl)
  obtain ⟨fd27, F27⟩ := c.def_ 27 (d := Hd.d27) rfl
  have g27 := He.glo_ok X G (c.fact 27 (f := .glo "deepest") rfl)
  obtain ⟨fd28, F28⟩ := c.def_ 28 (d := Hd.d28) rfl
  have g28 := He.glo_ok X G (c.fact 28 (f := .glo "kept_between") rfl)
  obtain ⟨fd29, F29⟩ := c.def_ 29 (d := Hd.d29) rfl
  have g29 := He.glo_ok X G (c.fact 29 (f := .glo "clash") rfl)
  obtain ⟨fd30, F30⟩ := c.def_ 30 (d := Hd.d30) rfl
  have g30 := He.glo_ok X G (c.fact 30 (f := .glo "are_neighbours") rfl)
  obtain ⟨fd31, F31⟩ := c.def_ 31 (d := Hd.d31) rfl
  have g31 := He.glo_ok X G (c.fact 31 (f := .glo "_law_draws") rfl)
  obtain ⟨fd32, F32⟩ := c.def_ 32 (d := Hd.d32) rfl
  have g32 := He.glo_ok X G (c.fact 32 (f := .glo "_law_take") rfl)
  obtain ⟨fd33, F33⟩ := c.def_ 33 (d := Hd.d33) rfl
  have g33 := He.glo_ok X G (c.fact 33 (f := .glo "_law_int") rfl)
  obtain ⟨fd34, F34⟩ := c.def_ 34 (d := Hd.d34) rfl
  have g34 := He.glo_ok X G (c.fact 34 (f := .glo "_law_bits") rfl)
  obtain ⟨fd35, F35⟩ := c.def_ 35 (d := Hd.d35) rfl
  have g35 := He.glo_ok X G (c.fact 35 (f := .glo "_law_lot") rfl)
  obtain ⟨fd36, F36⟩ := c.def_ 36 (d := Hd.d36) rfl
  have g36 := He.glo_ok X G (c.fact 36 (f := .glo "_law_number") rfl)
  obtain ⟨fd37, F37⟩ := c.def_ 37 (d := Hd.d37) rfl
  have g37 := He.glo_ok X G (c.fact 37 (f := .glo "_law_lots") rfl)
  obtain ⟨fd38, F38⟩ := c.def_ 38 (d := Hd.d38) rfl
  have g38 := He.glo_ok X G (c.fact 38 (f := .glo "_law_inside") rfl)
  obtain ⟨fd39, F39⟩ := c.def_ 39 (d := Hd.d39) rfl
  have g39 := He.glo_ok X G (c.fact 39 (f := .glo "_law_listed") rfl)
  obtain ⟨fd40, F40⟩ := c.def_ 40 (d := Hd.d40) rfl
  have g40 := He.glo_ok X G (c.fact 40 (f := .glo "_law_sized") rfl)
  obtain ⟨fd41, F41⟩ := c.def_ 41 (d := Hd.d41) rfl
  have g41 := He.glo_ok X G (c.fact 41 (f := .glo "_law_web") rfl)
  obtain ⟨fd42, F42⟩ := c.def_ 42 (d := Hd.d42) rfl
  have g42 := He.glo_ok X G (c.fact 42 (f := .glo "_law_paired") rfl)
  obtain ⟨fd43, F43⟩ := c.def_ 43 (d := Hd.d43) rfl
  have g43 := He.glo_ok X G (c.fact 43 (f := .glo "_law_turned") rfl)
  obtain ⟨fd44, F44⟩ := c.def_ 44 (d := Hd.d44) rfl
  have g44 := He.glo_ok X G (c.fact 44 (f := .glo "_law_joined") rfl)
  obtain ⟨fd45, F45⟩ := c.def_ 45 (d := Hd.d45) rfl
  have g45 := He.glo_ok X G (c.fact 45 (f := .glo "_law_breaks") rfl)
  obtain ⟨fd46, F46⟩ := c.def_ 46 (d := Hd.d46) rfl
  have g46 := He.glo_ok X G (c.fact 46 (f := .glo "_law_made") rfl)
  obtain ⟨fd47, F47⟩ := c.def_ 47 (d := Hd.d47) rfl
  have g47 := He.glo_ok X G (c.fact 47 (f := .glo "_law_family") rfl)
  obtain ⟨fd48, F48⟩ := c.def_ 48 (d := Hd.d48) rfl
  have g48 := He.glo_ok X G (c.fact 48 (f := .glo "_law_depths") rfl)
  obtain ⟨fd49, F49⟩ := c.def_ 49 (d := Hd.d49) rfl
  have g49 := He.glo_ok X G (c.fact 49 (f := .glo "_law_family_of") rfl)
  obtain ⟨fd50, F50⟩ := c.def_ 50 (d := Hd.d50) rfl
  have g50 := He.glo_ok X G (c.fact 50 (f := .glo "_law_refused") rfl)
  obtain ⟨fd51, F51⟩ := c.def_ 51 (d := Hd.d51) rfl
  have g51 := He.glo_ok X G (c.fact 51 (f := .glo "_law_is") rfl)
  obtain ⟨fd52, F52⟩ := c.def_ 52 (d := Hd.d52) rfl
  have g52 := He.glo_ok X G (c.fact 52 (f := .glo "_law_depths_in") rfl)
  obtain ⟨fd53, F53⟩ := c.def_ 53 (d := Hd.d53) rfl
  have g53 := He.glo_ok X G (c.fact 53 (f := .glo "_law_just") rfl)
  obtain ⟨fd54, F54⟩ := c.def_ 54 (d := Hd.d54) rfl
  have g54 := He.glo_ok X G (c.fact 54 (f := .glo "_law_doors") rfl)
  obtain ⟨fd55, F55⟩ := c.def_ 55 (d := Hd.d55) rfl
  have g55 := He.glo_ok X G (c.fact 55 (f := .glo "law") rfl)
  obtain ⟨fd56, F56⟩ := c.def_ 56 (d := Hd.d56) rfl
  obtain ⟨fd57, F57⟩ := c.def_ 57 (d := Hd.d57) rfl
  obtain ⟨fd58, F58⟩ := c.def_ 58 (d := Hd.d58) rfl
  obtain ⟨fd60, F60⟩ := c.def_ 60 (d := Hd.d60) rfl
  obtain ⟨fd61, F61⟩ := c.def_ 61 (d := Hd.d61) rfl
  have gFamily := He.glo_ok X G (c.fact 56 (f := .glo "Family") rfl)
  have gBadNumber := He.glo_ok X G (c.fact 66 (f := .glo "BadNumber") rfl)
  have gLotsError := He.glo_ok X G (c.fact 67 (f := .glo "LotsError") rfl)
  have B : Bi mg := ⟨He.free_ok X G (c.fact 68 (f := .free "len") rfl), He.free_ok X G (c.fact 69 (f := .free "min") rfl), He.free_ok X G (c.fact 70 (f := .free "max") rfl), He.free_ok X G (c.fact 71 (f := .free "int") rfl), He.free_ok X G (c.fact 72 (f := .free "range") rfl), He.free_ok X G (c.fact 73 (f := .free "sorted") rfl), He.free_ok X G (c.fact 74 (f := .free "tuple") rfl), He.free_ok X G (c.fact 75 (f := .free "list") rfl), He.free_ok X G (c.fact 76 (f := .free "set") rfl), He.free_ok X G (c.fact 77 (f := .free "isinstance") rfl), He.free_ok X G (c.fact 78 (f := .free "bool") rfl), He.free_ok X G (c.fact 79 (f := .free "enumerate") rfl), He.free_ok X G (c.fact 81 (f := .free "any") rfl), He.free_ok X G (c.fact 82 (f := .free "all") rfl), He.free_ok X G (c.fact 83 (f := .free "sum") rfl), He.free_ok X G (c.fact 84 (f := .free "reversed") rfl), He.free_ok X G (c.fact 80 (f := .free "abs") rfl)⟩
  have C : FC K (He.ga K "Family") := ⟨He.cls_ok (c.fact 58 (f := .cls "Family") rfl), He.noat_ok (c.fact 65 (f := .noat "Family" "size") rfl), He.noat_ok (c.fact 64 (f := .noat "Family" "lots") rfl), He.noat_ok (c.fact 63 (f := .noat "Family" "_inside") rfl)⟩
  have JFamily := Hd.insB_ok (He.ba (He.ba cm.1).1).1
  have ICFamily := JFamily.ic (He.cls_ok (c.fact 58 (f := .cls "Family") rfl))
  have SFFamily := JFamily.sf
  have NEFamily := JFamily.ne
  have XB := errB_ok (x := "BadNumber") gBadNumber (He.ba (He.ba cm.1).1).2 ⟨_, "BadNumber.__init__", inClass (top 5) 0, F61, one_bad⟩
  have CMS := cmB_ok (He.ba (He.ba cm.1).2).1
  obtain ⟨fdS, FS⟩ := He5.DefA.funD (d := Hd.dA0) cm.2 (He.ba (He.ba cm.1).2).2
  have e := hfa.symm.trans g55
  cases e
  have b := FunD.bindsA (ps := ["_law_script"]) F55 fun _ _ _ _ _ _ us hl => match us, hl with | [_], _ => rfl
  refine ⟨fd55, fun s v => b s [v] rfl, fun base _ _ => ?_⟩
  have k_c_law_bits := c_law_bits (P := P) (w := w) (base := base) F34 g34 B
  have k_c_law_lot := c_law_lot (P := P) (w := w) (base := base) F35 g35 B
  have k_c_law_number := c_law_number (P := P) (w := w) (base := base) F36 g36 B
  have k_c_law_lots := c_law_lots (P := P) (w := w) (base := base) F37 g37 B k_c_law_lot
  have k_c_law_inside := c_law_inside (P := P) (w := w) (base := base) F38 g38 B
  have k_c_law_listed := c_law_listed (P := P) (w := w) (base := base) F39 g39 B
  have k_c_law_sized := c_law_sized (P := P) (w := w) (base := base) F40 g40 B k_c_law_bits k_c_law_listed
  have k_c_law_turned := c_law_turned (P := P) (w := w) (base := base) F43 g43 B
  have k_c_law_joined := c_law_joined (P := P) (w := w) (base := base) F44 g44 B k_c_law_inside k_c_law_listed
  have k_c_law_take := c_law_take (P := P) (w := w) (base := base) F32 g32 B
  have k_c_law_web := c_law_web (P := P) (w := w) (base := base) F41 g41 B k_c_law_take
  have k_c_law_paired := c_law_paired (P := P) (w := w) (base := base) F42 g42 B k_c_law_listed
  have k_c_law_breaks := c_law_breaks (P := P) (w := w) (base := base) F45 g45 B k_c_law_inside
  have k_c_law_made := c_law_made (P := P) (w := w) (base := base) F46 g46 B k_c_law_take k_c_law_sized k_c_law_web k_c_law_paired k_c_law_joined
  have k_c_law_family := c_law_family (P := P) (w := w) (base := base) F47 g47 B k_c_law_take k_c_law_made k_c_law_inside k_c_law_listed k_c_law_turned
  have k_c_law_draws := c_law_draws (P := P) (w := w) (base := base) F31 g31 B
  have k_c_is_int := c_is_int (P := P) (w := w) (base := base) F0 g0 B
  have k_c_is_list := c_is_list (P := P) (w := w) (base := base) F1 g1 B
  have k_c_wrong_entry := c_wrong_entry (P := P) (w := w) (base := base) F2 g2 B k_c_is_int
  have k_c_is_lot := c_is_lot (P := P) (w := w) (base := base) F3 g3 B k_c_is_list k_c_wrong_entry
  have k_c_lot_of := c_lot_of (P := P) (w := w) (base := base) F4 g4 B k_c_is_list k_c_wrong_entry
  have k_c_mask_of := c_mask_of (P := P) (w := w) (base := base) F7 g7 B
  have k_c_lot_from := c_lot_from (P := P) (w := w) (base := base) F8 g8 B
  have k_c_lots_from := c_lots_from (P := P) (w := w) (base := base) F9 g9 B k_c_lot_from
  have k_c_mask_sums := c_mask_sums (P := P) (w := w) (base := base) F11 g11 B
  have k_c_thing_counts := c_thing_counts (P := P) (w := w) (base := base) F12 g12 B k_c_mask_sums
  have k_c_family_masks := c_family_masks (P := P) (w := w) (base := base) C F13 g13 B k_c_mask_of
  have k_c_inside_row := c_inside_row (P := P) (w := w) (base := base) C F14 g14 B k_c_family_masks
  have k_c_lowering_mask := c_lowering_mask (P := P) (w := w) (base := base) F21 g21 B k_c_mask_of
  have k_c_ungated_rows := c_ungated_rows (P := P) (w := w) (base := base) C F22 g22 B k_c_family_masks k_c_inside_row k_c_lowering_mask
  have k_c_first_break := c_first_break (P := P) (w := w) (base := base) C F23 g23 B k_c_mask_of k_c_lot_from
  have k_c_find_break := c_find_break (P := P) (w := w) (base := base) C F24 g24 B k_c_ungated_rows k_c_first_break
  have k_m_depth := m_depth (P := P) (w := w) (mg := mg) (base := base) C (He.meth_ok (c.fact 62 (f := .meth "Family" "depth") rfl)) F60 B k_c_lot_of
  have k_c_depth_of := c_depth_of (P := P) (w := w) (base := base) F26 g26 B k_m_depth
  have k_c_check_family_size := c_check_family_size (P := P) (w := w) (base := base) F17 g17 B k_c_is_int
  have k_c_checked_rows := c_checked_rows (P := P) (w := w) (base := base) F18 g18 B k_c_is_list k_c_is_lot
  have k_m_Family := m_Family (P := P) (w := w) (base := base) C (He.mkr_ok (c.fact 57 (f := .mkr "Family") rfl)) gFamily F56 B k_c_check_family_size k_c_checked_rows
  have k_c_depth_row := c_depth_row (P := P) (w := w) (base := base) C F15 g15 B k_c_inside_row
  have k_c_lot_ofP := c_lot_ofP (P := P) (w := w) (base := base) F4 g4 B k_c_is_list k_c_wrong_entry
  have k_c_ordered_masks := c_ordered_masks (P := P) (w := w) (base := base) F10 g10 B
  have k_c_contains_one := c_contains_one (P := P) (w := w) (base := base) F16 g16 B
  have k_c_kept_between := c_kept_between (P := P) (w := w) (base := base) F28 g28 B k_c_contains_one
  have k_c_clash := c_clash (P := P) (w := w) (base := base) C F29 g29 B k_c_thing_counts k_c_family_masks k_c_depth_row k_c_ordered_masks k_c_kept_between k_c_lot_from
  have k_c_are_neighbours := c_are_neighbours (P := P) (w := w) (base := base) F30 g30 B k_c_clash
  have k_c_checked_rowsA := c_checked_rowsA (P := P) (w := w) (base := base) F18 g18 B k_c_is_list k_c_is_lot
  have k_m_FamilyA := m_FamilyA (P := P) (w := w) (base := base) C (He.mkr_ok (c.fact 57 (f := .mkr "Family") rfl)) gFamily F56 B k_c_check_family_size k_c_checked_rowsA
  have k_c_ungated_rowsG := c_ungated_rowsG (P := P) (w := w) (base := base) C F22 g22 B k_c_family_masks k_c_inside_row k_c_lowering_mask
  have k_c_first_breakG := c_first_breakG (P := P) (w := w) (base := base) C F23 g23 B k_c_mask_of k_c_lot_from
  have k_c_find_breakG := c_find_breakG (P := P) (w := w) (base := base) C F24 g24 B k_c_ungated_rowsG k_c_first_breakG
  have k_c_is_gated := c_is_gated (P := P) (w := w) (base := base) F25 g25 B k_c_find_breakG
  have k_m_eqF := m_eqF (P := P) (w := w) (mg := mg) (base := base) C ICFamily gFamily (He.meth_ok (c.fact 59 (f := .meth "Family" "__eq__") rfl)) F57 B
  have k_c_law_int := c_law_int (P := P) (w := w) (base := base) F33 g33 B
  have k_c_law_depths := c_law_depths (P := P) (w := w) (base := base) F48 g48 B k_c_law_bits
  have k_c_is_intA := c_is_intA (P := P) (w := w) (base := base) F0 g0 B
  have k_e_check_number := e_check_number (P := P) (w := w) (base := base) XB.1 F5 g5 B k_c_is_intA
  have k_c_check_any_number := c_check_any_number (P := P) (w := w) (base := base) F6 g6 B k_c_is_int
  have k_c_deepest := c_deepest (P := P) (w := w) (base := base) F27 g27 B k_c_depth_row
  have k_e_within := e_within (P := P) (w := w) (base := base) C F19 g19 B k_e_check_number k_c_depth_row k_c_lot_from k_m_FamilyA
  have k_m_addF := m_addF (P := P) (w := w) (mg := mg) (base := base) C (He.meth_ok (c.fact 60 (f := .meth "Family" "__add__") rfl)) F58 B k_c_family_masks k_c_lots_from k_m_FamilyA
  have k_m_sized := m_sized (P := P) (w := w) (base := base) CMS.1 CMS.2 FS B k_c_check_family_size k_c_check_any_number k_c_ordered_masks k_c_lots_from k_m_FamilyA
  have k_e_just_at := e_just_at (P := P) (w := w) (base := base) C XB.1 F20 g20 B k_e_check_number k_c_thing_counts k_c_family_masks k_c_lots_from k_m_FamilyA
  have k_c_law_family_of := c_law_family_of (P := P) (w := w) (base := base) F49 g49 B k_c_law_take k_c_law_lots k_m_FamilyA
  have k_c_law_refused := c_law_refused (P := P) (w := w) (base := base) XB.1 gLotsError XB.2 F50 g50 B k_e_within k_e_just_at
  have k_c_law_is := c_law_is (P := P) (w := w) (base := base) C ICFamily gFamily F51 g51 B k_c_law_lots
  have k_m_depthP := m_depthP (P := P) (w := w) (mg := mg) (base := base) C (He.meth_ok (c.fact 62 (f := .meth "Family" "depth") rfl)) F60 B k_c_lot_ofP
  have k_c_depth_ofP := c_depth_ofP (P := P) (w := w) (base := base) F26 g26 B k_m_depthP
  have k_c_law_depths_in := c_law_depths_in (P := P) (w := w) (base := base) F52 g52 B k_c_depth_ofP k_c_law_lot k_c_law_int
  have k_within_calm := within_calm (P := P) (w := w) (base := base) k_e_within
  have k_just_calm := just_calm (P := P) (w := w) (base := base) k_e_just_at
  have k_c_law_just := c_law_just (P := P) (w := w) (base := base) ICFamily SFFamily gFamily F53 g53 B k_c_law_bits k_just_calm k_c_law_is k_m_eqF k_m_addF k_m_sized
  have k_c_law_doors := c_law_doors (P := P) (w := w) (base := base) F54 g54 B k_c_law_refused
  exact ok_law C ICFamily SFFamily NEFamily gFamily F55 B k_c_law_draws k_c_law_take k_c_law_family k_c_law_family_of k_c_law_breaks k_c_law_depths k_c_deepest k_within_calm k_just_calm k_m_eqF k_m_addF k_m_sized k_c_law_is k_c_law_depths_in k_c_law_just k_c_law_number k_c_law_listed k_c_law_inside k_c_clash k_c_are_neighbours k_c_is_gated k_c_law_doors
end W7
open PySem PySem.W PySem.Calls PyProof.Rows
theorem PySem.Challenge.cw_turnlots_k36_within_a_depth_holds : PySem.Challenge.rw_turnlots_k36_within_a_depth.Holds := by
  w_on; o_law
  refine HandSHeadRun.head_any (r := OpenLaw.row PySem.Challenge.rw_turnlots_k36_within_a_depth) (q := view (OpenLaw.row PySem.Challenge.rw_turnlots_k36_within_a_depth).prog [72]) (H := Hd.hk) (ob := Hd.ob) (M := 20000) (loose := Hd.loose) (d := HandSHeadRun.topDef (OpenLaw.row PySem.Challenge.rw_turnlots_k36_within_a_depth).prog 72) (kwd := []) Hd.ob_eq
    (by kernel_rfl) (fun s => by kernel_rfl) Hd.run (by kernel_rfl) (by kernel_rfl) (by kernel_rfl) (by rfl) (by first | assumption | decide +kernel) (by decide +kernel) ⟨rfl, rfl, rfl, rfl, rfl, by decide +kernel⟩ ?hw ?hc
  case hw => w_witness2
  case hc =>
    refine L2.walk_ofE (l := PySem.Challenge.rw_turnlots_k36_within_a_depth) (n := 63) (k := 10) (x := "_law_script") (CX := L2.CX0) rfl (by decide) (by kernel_rfl) ⟨rfl, by decide, by decide⟩ ?F (fun _ _ _ _ z => z)
    intro w mg fa h Y G hmg0
    obtain ⟨K, KX, c, cm⟩ := Y
    have hmg : mg ("law" : PySem.Str) = some (.ref fa) := by
      have e : (HandSHeadRun.topDef (OpenLaw.row PySem.Challenge.rw_turnlots_k36_within_a_depth).prog 72).name = ("law" : PySem.Str) := by kernel_rfl
      rw [← e]
      exact hmg0
    obtain ⟨fd, hb, hF⟩ := W7.facts (P := (PySem.Challenge.rw_turnlots_k36_within_a_depth).prog) (w := w) KX G hmg c cm
    exact ⟨K, fd, W7.spLaw K, KX, hb, fun H a ns hl _ hS => ⟨a, ns, rfl, hS, by omega, fun _ => rfl⟩, hF⟩
end
