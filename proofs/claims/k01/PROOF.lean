import PyProof.Rows.All
import KE.KDictOf
import KE.KIsAll
import KE.KFromBytes
import KE.KDictSum
import KE.KEqDict
import KE.LcSums
import KE.KItem
import Lean
import PyProof.EqAt
import PyProof.EqKinds
import PyProof.TupleCall
import PyProof.Rows.SortStr
import PyProof.StrLawsReplace
import PyProof.StrLawsIdx
import PyProof.StrLawsIn
import PyProof.StrBlockI
import PyProof.StrBlockL
import PyProof.SliceList
import PyProof.InstStoreFacts
import PyProof.NsDelKeeps
import PyProof.StationsW
import PyProof.ExcArgs
import PyProof.ExcBaseAll.ValueError
import PyProof.StrCalls
import PyProof.ListRange
import PyProof.EnumMake
import PyProof.Draws
import PyProof.FactsAll.dict
import PyProof.StrBlock2
import PyProof.Rows.SumAny
import PyProof.NeKinds
import PyProof.Rows.MinMaxN
import PyProof.Rows.Range3
import PyProof.StrLawsFirst
import PyProof.AttrMissHeap
import PyProof.Rows.CallKwBuiltin
import KE.KMinKey
import PySem.Challenge.RW_bandscribe_k01_bands_refused
set_option Elab.async false
set_option linter.all false
set_option maxRecDepth 100000
set_option maxHeartbeats 4000000
namespace K1
open PySem PySem.W
def tp (i : Nat) : Stmt := PySem.Challenge.pw_bandscribe_k01_bands_refused.main.body.getD i (.Pass ⟨0, 0, 0, 0⟩)
def view : PySem.Program := { PySem.Challenge.pw_bandscribe_k01_bands_refused with main := { PySem.Challenge.pw_bandscribe_k01_bands_refused.main with body := [tp 0, tp 2, tp 3, tp 4, tp 5, tp 6, tp 7, tp 8, tp 9, tp 10, tp 11, tp 12, tp 13, tp 14, tp 15, tp 16, tp 17, tp 18, tp 20, tp 21, tp 22, tp 23, tp 24, tp 25, tp 26, tp 27, tp 28, tp 29, tp 30, tp 31, tp 33, tp 34, tp 35, tp 36, tp 37, tp 38, tp 39, tp 40, tp 41, tp 42, tp 43, tp 44] } }
def lhsA1 (w : World) := (openEnds treeTable PySem.Challenge.pw_bandscribe_k01_bands_refused w 8100).map (fun s => (openSeen view [] (importedModules PySem.Challenge.pw_bandscribe_k01_bands_refused.main.body) (fun s => PySem.W.xlAt view [] s && PySem.W.recOk (PySem.W.RowW.records (PySem.W.OpenRow.toRowW (PySem.W.OpenLaw.row PySem.Challenge.rw_bandscribe_k01_bands_refused))) s) true s).1)
def lhsA2 (w : World) := (openEnds treeTable PySem.Challenge.pw_bandscribe_k01_bands_refused w 8100).map (fun s => ((openSeen view [] (importedModules PySem.Challenge.pw_bandscribe_k01_bands_refused.main.body) (fun s => PySem.W.xlAt view [] s && PySem.W.recOk (PySem.W.RowW.records (PySem.W.OpenRow.toRowW (PySem.W.OpenLaw.row PySem.Challenge.rw_bandscribe_k01_bands_refused))) s) true s).2.1, (openSeen view [] (importedModules PySem.Challenge.pw_bandscribe_k01_bands_refused.main.body) (fun s => PySem.W.xlAt view [] s && PySem.W.recOk (PySem.W.RowW.records (PySem.W.OpenRow.toRowW (PySem.W.OpenLaw.row PySem.Challenge.rw_bandscribe_k01_bands_refused))) s) true s).2.2.1))
def lhsA3 (w : World) := (openEnds treeTable PySem.Challenge.pw_bandscribe_k01_bands_refused w 8100).map (fun s => ((openSeen view [] (importedModules PySem.Challenge.pw_bandscribe_k01_bands_refused.main.body) (fun s => PySem.W.xlAt view [] s && PySem.W.recOk (PySem.W.RowW.records (PySem.W.OpenRow.toRowW (PySem.W.OpenLaw.row PySem.Challenge.rw_bandscribe_k01_bands_refused))) s) true s).2.2.2.1, (openSeen view [] (importedModules PySem.Challenge.pw_bandscribe_k01_bands_refused.main.body) (fun s => PySem.W.xlAt view [] s && PySem.W.recOk (PySem.W.RowW.records (PySem.W.OpenRow.toRowW (PySem.W.OpenLaw.row PySem.Challenge.rw_bandscribe_k01_bands_refused))) s) true s).2.2.2.2.1))
def lhsA5 (w : World) := (openEnds treeTable PySem.Challenge.pw_bandscribe_k01_bands_refused w 8100).map (fun s => (openSeen view [] (importedModules PySem.Challenge.pw_bandscribe_k01_bands_refused.main.body) (fun s => PySem.W.xlAt view [] s && PySem.W.recOk (PySem.W.RowW.records (PySem.W.OpenRow.toRowW (PySem.W.OpenLaw.row PySem.Challenge.rw_bandscribe_k01_bands_refused))) s) true s).2.2.2.2.2.1)
def lhsA4 (w : World) := (openEnds treeTable PySem.Challenge.pw_bandscribe_k01_bands_refused w 8100).map (fun s => (openSeen view [] (importedModules PySem.Challenge.pw_bandscribe_k01_bands_refused.main.body) (fun s => PySem.W.xlAt view [] s && PySem.W.recOk (PySem.W.RowW.records (PySem.W.OpenRow.toRowW (PySem.W.OpenLaw.row PySem.Challenge.rw_bandscribe_k01_bands_refused))) s) true s).2.2.2.2.2.2)
def lhsB (as : List Addr) (w : World) := (openEnds treeTable PySem.Challenge.pw_bandscribe_k01_bands_refused w 8100).map (fun s => as.map s.heap.get?)
theorem parts {S A B : Type} {o : Option S} {f : S → A} {g : S → B} {a : A} {b : B} (h : o.map f = some a) (h' : o.map g = some b) : o.map (fun s => (f s, g s)) = some (a, b) := by
  cases o with
  | none => cases h
  | some s => exact congrArg some (Prod.ext (Option.some.inj h) (Option.some.inj h'))
theorem four {S A B C D E F G : Type} {o : Option S} {f : S → A × B × C × D × E × F × G} {a : A × B × C × D × E × F × G} (h1 : o.map (fun s => (f s).1) = some a.1) (h2 : o.map (fun s => ((f s).2.1, (f s).2.2.1)) = some (a.2.1, a.2.2.1)) (h3 : o.map (fun s => ((f s).2.2.2.1, (f s).2.2.2.2.1)) = some (a.2.2.2.1, a.2.2.2.2.1)) (h5 : o.map (fun s => (f s).2.2.2.2.2.1) = some a.2.2.2.2.2.1) (h4 : o.map (fun s => (f s).2.2.2.2.2.2) = some a.2.2.2.2.2.2) : o.map f = some a := by
  cases o with
  | none => cases h1
  | some s =>
    have e1 : (f s).1 = a.1 := Option.some.inj h1
    have e2 : ((f s).2.1, (f s).2.2.1) = (a.2.1, a.2.2.1) := Option.some.inj h2
    have e3 : ((f s).2.2.2.1, (f s).2.2.2.2.1) = (a.2.2.2.1, a.2.2.2.2.1) := Option.some.inj h3
    have e5 : (f s).2.2.2.2.2.1 = a.2.2.2.2.2.1 := Option.some.inj h5
    have e4 : (f s).2.2.2.2.2.2 = a.2.2.2.2.2.2 := Option.some.inj h4
    exact congrArg some (Prod.ext e1 (Prod.ext (Prod.mk.inj e2).1 (Prod.ext (Prod.mk.inj e2).2 (Prod.ext (Prod.mk.inj e3).1 (Prod.ext (Prod.mk.inj e3).2 (Prod.ext e5 e4))))))
theorem cut (n : Nat) {o : Option Shared} {as : List Addr} {v : List (Option Obj)} (h : o.map (fun s => (as.take n).map s.heap.get?) = some (v.take n)) (h' : o.map (fun s => (as.drop n).map s.heap.get?) = some (v.drop n)) : o.map (fun s => as.map s.heap.get?) = some v := by
  cases o with
  | none => cases h
  | some s =>
    have h1 : (as.take n).map s.heap.get? = v.take n := Option.some.inj h
    have h2 : (as.drop n).map s.heap.get? = v.drop n := Option.some.inj h'
    show some (as.map s.heap.get?) = some v
    rw [← List.take_append_drop n as, List.map_append, h1, h2, List.take_append_drop]
end K1
lay_quick K1.lhsA1 K1.lhsA2 K1.lhsA3 K1.lhsA5 K1.lhsA4 K1.lhsB
section
open PySem PySem.W PyProof.Rows
local macro_rules | `(tactic| o_head $H) => `(tactic| (refine PySem.W.holds_open (q := K1.view) (loose := []) (Xt := fun s => PySem.W.xlAt K1.view [] s && PySem.W.recOk (PySem.W.RowW.records (PySem.W.OpenRow.toRowW (PySem.W.OpenLaw.row PySem.Challenge.rw_bandscribe_k01_bands_refused))) s) (XP := PySem.W.XL K1.view []) (Yf := PySem.W.Hook.obs $H) (Ya := PySem.W.Hook.val $H) (YP := PySem.W.Hook.says $H) (N := 8100) ?hl (PySem.W.Hook.of $H) (PySem.W.Hook.keeps $H) (fun s e => PySem.W.xl_of s (Bool.and_eq_true_iff.mp e).1) PySem.W.XL.keeps (by rfl) (by rfl) (by rfl) (fun s e => PySem.W.recFacts_of (Bool.and_eq_true_iff.mp e).2) (by rfl) (by first | assumption | decide +kernel) (by decide +kernel) ⟨rfl, rfl, rfl, rfl, rfl, by decide +kernel⟩ ?hw ?hc; (case hl => (intro w; contradiction))))
theorem K1.pre (h : False) : (PySem.Challenge.rw_bandscribe_k01_bands_refused).Holds := by
  w_on; o_law; k_head
  all_goals contradiction
end
namespace K1
open PySem PySem.W
def addrs : List Addr := [2, 3, 15, 17, 18, 20, 21, 22, 29, 30, 31, 32, 35, 42, 43, 44, 47, 54, 56, 57, 59, 60, 61, 62, 63, 66, 73, 75, 76, 78, 79, 80, 81, 82, 85, 92, 94, 95, 97, 98, 99, 100, 101, 104, 111, 113, 114, 116, 117, 118, 119, 120, 123, 130, 132, 133, 135, 136, 137, 138, 139, 142, 149, 150, 151, 154, 161, 162, 163, 166, 173, 174, 175, 178, 185, 187, 188, 190, 191, 192, 193, 194, 197, 204, 206, 207, 209, 210, 211, 212, 213, 216, 223, 224, 225, 228, 235, 237, 238, 240, 241, 242, 243, 244, 247, 254, 255, 256, 259, 266, 267, 268, 271, 278, 279, 280, 283, 286, 287, 288, 290, 291, 293, 294, 295, 297, 298, 300, 301, 302, 304, 305, 307, 308, 309, 312, 313, 314, 316, 317, 319, 320, 321, 323, 324, 326, 327, 328, 330, 331, 333, 334, 335, 338, 339, 340, 343, 344, 352, 354, 355, 357, 358, 359, 361, 362, 364, 365, 366, 368, 369, 371, 372, 373, 375, 376, 378, 379, 380, 382, 383, 385, 386, 387, 389, 390, 392, 393, 394, 396, 397, 399, 400, 401, 403, 404, 406, 407, 408, 410, 411, 413, 414, 415, 418, 419, 420, 421, 422, 423, 424, 427, 429, 430, 432, 433, 434, 436, 437, 439, 440, 441, 443, 444, 446, 447, 448, 451, 452, 453, 455, 456, 458, 459, 460, 462, 463, 465, 466, 467, 469, 470, 472, 473, 474, 476, 477, 479, 480, 481, 484, 485, 486, 489, 490, 491, 493, 494, 496, 497, 498, 501, 502]
open PyProof.Rows in
theorem pA5 (w : World) : lhsA5 w = some (plainGoodE view (looseW view [])) := Eq.trans (congrFun PySem.W.Fast.te17301727373223454848 w) (by kernel_rfl)
open PyProof.Rows in
theorem pA3 (w : World) : lhsA3 w = some (true, pinGoodD (drecsOf view)) := Eq.trans (congrFun PySem.W.Fast.te11831051884520957410 w) (by kernel_rfl)
open PyProof.Rows in
theorem pA4 (w : World) : lhsA4 w = some (plainGoodD view [], wideGood view, clsGoodW view []) := Eq.trans (congrFun PySem.W.Fast.te15852888967117859167 w) (by kernel_rfl)
open PyProof.Rows in
theorem pA1 (w : World) : lhsA1 w = some (expectedOf view) := Eq.trans (congrFun PySem.W.Fast.te9477647480129558396 w) (by kernel_rfl)
open PyProof.Rows in
theorem pA2 (w : World) : lhsA2 w = some (bltViewBooted, true) := Eq.trans (congrFun PySem.W.Fast.te12162790228754754272 w) (by kernel_rfl)
theorem pB0 (w : World) : lhsB (K1.addrs.take 90) w = some (((K1.pre.heap_39 w.params).map fun p => some p.2).take 90) := Eq.trans (congrFun (congrFun PySem.W.Fast.te11439225910181120870 _) w) (by kernel_rfl)
theorem pB1 (w : World) : lhsB ((K1.addrs.drop 90).take 90) w = some ((((K1.pre.heap_39 w.params).map fun p => some p.2).drop 90).take 90) := Eq.trans (congrFun (congrFun PySem.W.Fast.te11439225910181120870 _) w) (by kernel_rfl)
theorem pB2 (w : World) : lhsB ((K1.addrs.drop 90).drop 90) w = some ((((K1.pre.heap_39 w.params).map fun p => some p.2).drop 90).drop 90) := Eq.trans (congrFun (congrFun PySem.W.Fast.te11439225910181120870 _) w) (by kernel_rfl)
theorem whole (w : World) : (openEnds treeTable PySem.Challenge.pw_bandscribe_k01_bands_refused w 8100).map (fun s => (openSeen view [] (importedModules PySem.Challenge.pw_bandscribe_k01_bands_refused.main.body) (fun s => PySem.W.xlAt view [] s && PySem.W.recOk (PySem.W.RowW.records (PySem.W.OpenRow.toRowW (PySem.W.OpenLaw.row PySem.Challenge.rw_bandscribe_k01_bands_refused))) s) true s, K1.addrs.map s.heap.get?)) = some (openGood view [], ((K1.pre.heap_39 w.params).map fun p => some p.2)) := parts (four (f := fun s => openSeen view [] (importedModules PySem.Challenge.pw_bandscribe_k01_bands_refused.main.body) (fun s => PySem.W.xlAt view [] s && PySem.W.recOk (PySem.W.RowW.records (PySem.W.OpenRow.toRowW (PySem.W.OpenLaw.row PySem.Challenge.rw_bandscribe_k01_bands_refused))) s) true s) (a := openGood view []) (pA1 w) (pA2 w) (pA3 w) (pA5 w) (pA4 w)) (cut 90 (pB0 w) (cut 90 (pB1 w) (pB2 w)))
end K1

set_option Elab.async false
set_option linter.all false
set_option maxRecDepth 100000
/-! THE HAND LAYER, for ints, bools, texts, own classes, LISTS and tuples (index, slices, in, append, pop ..), calls, loops. Paste it whole ahead of your own text; what your proof does not reach may be deleted. -/
namespace L2
open PySem PySem.Spec PyProof.Rows

/-- a key: an int or a str -/
abbrev Key := Sum Int Str
def keyIs : Key → Value → Bool
  | .inl k, v => Value.isInt k v
  | .inr x, v => Value.isStrOf x v
def keyH (w : World) : Key → Int
  | .inl k => hashInt k
  | .inr x => hashStr w x
theorem keyIs_shape : ∀ {k : Key} {v : Value}, keyIs k v = true → (∃ i t, k = Sum.inl i ∧ v = Value.int i t) ∨ (∃ x t, k = Sum.inr x ∧ v = Value.str x t)
  | .inl i, v, h => by
    obtain ⟨t, e⟩ := Value.isInt_shape (k := i) (v := v) h
    exact .inl ⟨i, t, rfl, e⟩
  | .inr x, v, h => by
    obtain ⟨t, e⟩ := Value.isStrOf_shape (x := x) (v := v) h
    exact .inr ⟨x, t, rfl, e⟩
theorem keyIs_int (i : Int) (t : Tok) : keyIs (.inl i) (.int i t) = true := by simp [keyIs, Value.isInt]
theorem keyIs_str (x : Str) (t : Tok) : keyIs (.inr x) (.str x t) = true := by simp [keyIs, Value.isStrOf]
theorem key_ll (a b : Int) : decide ((Sum.inl a : Key) = Sum.inl b) = (a == b) := by
  by_cases e : a = b
  · subst e; simp
  · have h : ¬ (Sum.inl a : Key) = Sum.inl b := fun q => e (Sum.inl.inj q)
    rw [decide_eq_false h]
    exact (beq_eq_false_iff_ne.mpr e).symm
theorem key_rr (a b : Str) : decide ((Sum.inr a : Key) = Sum.inr b) = decide (a = b) := by
  by_cases e : a = b
  · subst e; simp
  · have h : ¬ (Sum.inr a : Key) = Sum.inr b := fun q => e (Sum.inr.inj q)
    rw [decide_eq_false h, decide_eq_false e]
theorem key_lr (a : Int) (b : Str) : decide ((Sum.inl a : Key) = Sum.inr b) = false := decide_eq_false (fun q => nomatch q)
theorem key_rl (a : Str) (b : Int) : decide ((Sum.inr a : Key) = Sum.inl b) = false := decide_eq_false (fun q => nomatch q)

def mixKind (prog : Program) (w : World) : PySem.KeyKind prog w Key where
  is := keyIs
  hash := keyH w
  inj := fun v a b ha hb => by
    rcases keyIs_shape ha with ⟨i, t, rfl, rfl⟩ | ⟨x, t, rfl, rfl⟩
    · rcases keyIs_shape hb with ⟨j, u, rfl, e⟩ | ⟨y, u, rfl, e⟩
      · injection e with e1 _; rw [e1]
      · exact nomatch e
    · rcases keyIs_shape hb with ⟨j, u, rfl, e⟩ | ⟨y, u, rfl, e⟩
      · exact nomatch e
      · injection e with e1 _; rw [e1]
  byValue := fun k v h => by
    rcases keyIs_shape h with ⟨i, t, rfl, rfl⟩ | ⟨x, t, rfl, rfl⟩ <;> rfl
  pyHash := fun hv h => by
    rcases keyIs_shape hv with ⟨i, t, rfl, rfl⟩ | ⟨x, t, rfl, rfl⟩
    · exact wpAny_pyHash_int h
    · exact wpAny_pyHash_str h
  eqBool := fun hu hv h => by
    rcases keyIs_shape hu with ⟨i, t, rfl, rfl⟩ | ⟨x, t, rfl, rfl⟩
    · rcases keyIs_shape hv with ⟨j, u, rfl, rfl⟩ | ⟨y, u, rfl, rfl⟩
      · rw [key_ll] at h; exact wpAny_eqBool_int h
      · rw [key_lr] at h; exact SeqAt.EqAt.int_str i t y u _ _ _ _ h
    · rcases keyIs_shape hv with ⟨j, u, rfl, rfl⟩ | ⟨y, u, rfl, rfl⟩
      · rw [key_rl] at h; exact SeqAt.EqAt.str_int x t j u _ _ _ _ h
      · rw [key_rr] at h; exact wpAny_eqBool_str h
  «strs» := fun k x t v h => by
    rcases keyIs_shape h with ⟨i, u, rfl, e⟩ | ⟨y, u, rfl, e⟩
    · exact nomatch e
    · injection e with e1 _
      subst e1
      cases v <;> rfl

theorem mixKind_int (prog : Program) (w : World) (i : Int) (t : Tok) : (mixKind prog w).is (.inl i) (.int i t) = true := keyIs_int i t
theorem mixKind_str (prog : Program) (w : World) (x : Str) (t : Tok) : (mixKind prog w).is (.inr x) (.str x t) = true := keyIs_str x t
end L2

namespace L2
open PySem PySem.Spec PyProof.Rows

/-- a value, without the heap -/
inductive V where
  | non | bl (b : Bool) | int (i : Int) | str (x : Str) | byt (b : Array UInt8) | flt (b : UInt64) | ref (a : Addr) | ty (n : String)
  deriving DecidableEq

def RelV : V → Value → Prop
  | .non, u => u = Value.none
  | .bl b, u => u = Value.bool b
  | .int i, u => ∃ t, u = Value.int i t
  | .str x, u => ∃ t, u = Value.str x t
  | .byt b, u => ∃ t, u = Value.bytes b t
  | .flt b, u => ∃ t, u = Value.float b t
  | .ref a, u => u = Value.ref a
  | .ty n, u => u = Value.type n

abbrev Vals : List V → List Value → Prop := Paired RelV
theorem Vals.length {xs : List V} {us : List Value} (r : Vals xs us) : xs.length = us.length := Paired.length r
theorem Vals.get : ∀ {xs : List V} {us : List Value} {i : Nat} {x : V}, Vals xs us → xs[i]? = some x → ∃ u, us[i]? = some u ∧ RelV x u
  | _, _, _, _, .nil, e => by simp at e
  | _, _, 0, _, .cons r _, e => by simp at e; subst e; exact ⟨_, rfl, r⟩
  | _, _, i + 1, x, .cons _ t, e => by
    obtain ⟨u, h1, h2⟩ := Vals.get (i := i) (x := x) t (by simpa using e)
    exact ⟨u, by simpa using h1, h2⟩
theorem Vals.set {x : V} {u : Value} (r : RelV x u) : ∀ {xs : List V} {us : List Value} (i : Nat), Vals xs us → Vals (xs.set i x) (us.set i u)
  | _, _, _, .nil => .nil
  | _, _, 0, .cons _ t => .cons r t
  | _, _, i + 1, .cons q t => .cons q (Vals.set r i t)
theorem Vals.append : ∀ {xs ys : List V} {us ws : List Value}, Vals xs us → Vals ys ws → Vals (xs ++ ys) (us ++ ws)
  | _, _, _, _, .nil, s => s
  | _, _, _, _, .cons r t, s => .cons r (Vals.append t s)
theorem Vals.take : ∀ {xs : List V} {us : List Value} (n : Nat), Vals xs us → Vals (xs.take n) (us.take n)
  | _, _, 0, _ => .nil
  | _, _, _ + 1, .nil => .nil
  | _, _, n + 1, .cons r t => .cons r (Vals.take n t)
theorem Vals.drop : ∀ {xs : List V} {us : List Value} (n : Nat), Vals xs us → Vals (xs.drop n) (us.drop n)
  | _, _, 0, r => r
  | _, _, _ + 1, .nil => .nil
  | _, _, n + 1, .cons _ t => Vals.drop n t
theorem Vals.none_of : ∀ {xs : List V} {us : List Value} {i : Nat}, Vals xs us → xs[i]? = none → us[i]? = none := fun {xs us i} r e => by
  have h1 := r.length
  have h2 : xs.length ≤ i := List.getElem?_eq_none_iff.mp e
  exact List.getElem?_eq_none_iff.mpr (by omega)

def RelO : Option V → Option Value → Prop
  | some v, some u => RelV v u
  | none, none => True
  | _, _ => False
def KV {κ : Type} : List (κ × V) → List (κ × Value) → Prop := Paired fun (p : κ × V) (q : κ × Value) => p.1 = q.1 ∧ RelV p.2 q.2

/-- a key of a dict (00_mix): an int or a text -/
def kV : Key → V
  | .inl i => .int i
  | .inr x => .str x

/-- what stands at a tracked address -/
inductive HO where
  /-- a list -/
  | lst (xs : List V)
  /-- a tuple (never changes) -/
  | tup (xs : List V)
  /-- a dict whose keys are ints and texts; one whose keys are tuples of ints and texts (the empty one is both) -/
  | dK (kvs : List (Key × V)) | dT (kvs : List (List Key × V))
  /-- a set of ints: its members, its size -/
  | set (S : Int → Bool) (n : Nat)
  /-- an instance of the class at C, its dict at dx, its attributes -/
  | ins (C dx : Addr) (fs : List (Str × V))
  /-- the dict of the instance at x -/
  | own (x : Addr)
  /-- the dict of an exception -/
  | xd (fs : List (Str × V))
  /-- a bound method, f of x -/
  | met (f x : Addr)
  /-- a range object lo, lo + 1, .. below hi -/
  | rng (lo hi : Int)
  /-- a thing that is known to the object (the script; a dict while a loop walks it): read, never written while it is so -/
  | frz (o : Obj) (u : HO)
  /-- a code object's table -/
  | tbl (ps : Array Value)
  /-- any other thing, by what is true of its one object (a def of one's own: SetO a S n := HO.ext fun h => ..) -/
  | ext (φ : Heap → Prop)

abbrev Hp := Addr → Option HO
def upd (H : Hp) (a : Addr) (o : HO) : Hp := fun b => if b = a then some o else H b
theorem upd_same {H : Hp} {a : Addr} {o : HO} : upd H a o a = some o := by unfold upd; rw [if_pos rfl]
theorem upd_ne {H : Hp} {a b : Addr} {o : HO} (h : b ≠ a) : upd H a o b = H b := by unfold upd; rw [if_neg h]
theorem upd_upd {H : Hp} {a : Addr} {o u : HO} : upd (upd H a o) a u = upd H a u := by
  funext b; unfold upd; split <;> rfl
/-- two objects of different content stand apart -/
theorem ne_of {H : Hp} {a b : Addr} {o u : HO} (h : H a = some o) (h' : H b = some u) (d : o ≠ u) : a ≠ b := by
  intro e; subst e; rw [h] at h'; exact d (Option.some.inj h')
theorem ne_of_none {H : Hp} {a b : Addr} {o : HO} (h : H a = some o) (h' : H b = none) : a ≠ b := by
  intro e; subst e; rw [h] at h'; cases h'

section
variable (P : Program) (w : World)
def ObjOk (H : Hp) (h : Heap) (a : Addr) : HO → Prop
  | .lst xs => xs.length ≤ sizeLine ∧ ∃ (its : List Value) (n : Nat), Vals xs its ∧ h.get? a = some { cls := .type "list", data := .seq its.toArray n }
  | .tup xs => xs.length ≤ sizeLine ∧ ∃ its : List Value, Vals xs its ∧ IsTup h a its.toArray
  | .dK kvs => kvs.length ≤ sizeLine ∧ (a == sysModules) = false ∧ ∃ vs, KV kvs vs ∧ h.DictOf (mixKind P w) a vs
  | .dT kvs => kvs.length ≤ sizeLine ∧ (a == sysModules) = false ∧ ∃ xs : List (List Key × Addr × Value),
      Paired (fun (p : List Key × V) (q : List Key × Addr × Value) => p.1 = q.1 ∧ H q.2.1 = some (.tup (p.1.map kV)) ∧ RelV p.2 q.2.2) kvs xs ∧
      ∃ o es ep, h.get? a = some o ∧ o.ExactDict ∧ o.data = .dict es ep ∧ es.toList = xs.map (entryOfKey (tupleKind (mixKind P w))) ∧ (xs.map (·.1)).Nodup
  | .set S n => h.SetOf (intKind P w) a S n
  | .ins C dx fs => H dx = some (.own a) ∧ fs.length ≤ 1000 ∧ dx ≠ a ∧ h.get? a = some (PySem.W.instObj C dx) ∧
      ∃ mA, h.Ns1 dx mA ∧ (∀ f, RelO (fs.lookup f) (mA f)) ∧ PySem.Within mA (fs.map (·.1))
  | .own _ => ∃ o, h.get? a = some o
  | .xd fs => ∃ mA, h.Ns1 a mA ∧ ∀ f, RelO (fs.lookup f) (mA f)
  | .rng lo hi => ∃ t u v, h.get? a = some { cls := .type "range", data := .fields #[.int lo t, .int hi u, .int 1 v] }
  | .frz o u => h.get? a = some o ∧ ObjOk H h a u
  | .tbl ps => h.get? a = some { cls := .none, data := .fields ps }
  | .met f x => h.get? a = some (PySem.W.methodObj (.ref f) (.ref x))
  | .ext φ => φ h ∧ (∃ o, h.get? a = some o) ∧ ∀ h1 h2 : Heap, φ h1 → (∀ o, h1.get? a = some o → h2.get? a = some o) → φ h2
/-- the abstract heap is held -/
def HOk (H : Hp) (h : Heap) : Prop := ∀ a o, H a = some o → ObjOk P w H h a o
end

section
variable {P : Program} {w : World} {H H' : Hp} {h h' : Heap} {a : Addr} {o : HO}
theorem ObjOk.lt (x : ObjOk P w H h a o) : a < h.objs.size := by
  cases o with
  | lst xs => obtain ⟨_, _, _, _, e⟩ := x; exact Heap.lt_size e
  | tup xs => obtain ⟨_, _, _, p⟩ := x; exact p.lt
  | dK kvs => obtain ⟨_, _, _, _, o, _, _, e, _⟩ := x; exact Heap.lt_size e
  | dT kvs => obtain ⟨_, _, _, _, o, _, _, e, _⟩ := x; exact Heap.lt_size e
  | set S n => obtain ⟨o, _, _, _, e, _⟩ := x; exact Heap.lt_size e
  | ins C dx fs => obtain ⟨_, _, _, e, _⟩ := x; exact Heap.lt_size e
  | own y => obtain ⟨_, e⟩ := x; exact Heap.lt_size e
  | xd fs => obtain ⟨_, ⟨_, _, _, e, _⟩, _⟩ := x; exact Heap.lt_size e
  | rng lo hi => obtain ⟨_, _, _, e⟩ := x; exact Heap.lt_size e
  | frz ob u => obtain ⟨e, _⟩ := x; exact Heap.lt_size e
  | tbl ps => exact Heap.lt_size (show h.get? a = some _ from x)
  | met f y => exact Heap.lt_size (show h.get? a = some _ from x)
  | ext φ => obtain ⟨_, ⟨_, e⟩, _⟩ := x; exact Heap.lt_size e
theorem Paired.mapP {α β : Type} {F G : α → β → Prop} : ∀ {l₁ : List α} {l₂ : List β}, Paired F l₁ l₂ → (∀ a b, F a b → G a b) → Paired G l₁ l₂
  | _, _, .nil, _ => .nil
  | _, _, .cons r t, f => .cons (f _ _ r) (Paired.mapP t f)
/-- what an object's description leans on: its own object, its own dict, the tuples -/
theorem ObjOk.stay (x : ObjOk P w H h a o) (k : ∀ b u, (b = a ∨ H b = some (.own a)) → h.get? b = some u → h'.get? b = some u)
    (ho : ∀ b, H b = some (.own a) → H' b = some (.own a)) (ht : ∀ b xs, H b = some (.tup xs) → H' b = some (.tup xs)) : ObjOk P w H' h' a o := by
  induction o with
  | lst xs => obtain ⟨z, its, n, r, e⟩ := x; exact ⟨z, its, n, r, k _ _ (.inl rfl) e⟩
  | tup xs => obtain ⟨z, its, r, ob, e, c⟩ := x; exact ⟨z, its, r, ob, k _ _ (.inl rfl) e, c⟩
  | dK kvs => obtain ⟨z, y, vs, r, ob, es, ep, e, c⟩ := x; exact ⟨z, y, vs, r, ob, es, ep, k _ _ (.inl rfl) e, c⟩
  | dT kvs =>
    obtain ⟨z, y, xs, r, ob, es, ep, e, c⟩ := x
    exact ⟨z, y, xs, Paired.mapP r fun p q z => ⟨z.1, ht _ _ z.2.1, z.2.2⟩, ob, es, ep, k _ _ (.inl rfl) e, c⟩
  | set S n => obtain ⟨ob, es, ep, t, e, c⟩ := x; exact ⟨ob, es, ep, t, k _ _ (.inl rfl) e, c⟩
  | ins C dx fs =>
    obtain ⟨d, z, ne, e, mA, ⟨od, es, ep, e2, c⟩, r⟩ := x
    exact ⟨ho _ d, z, ne, k _ _ (.inl rfl) e, mA, ⟨od, es, ep, k _ _ (.inr d) e2, c⟩, r⟩
  | own y => obtain ⟨ob, e⟩ := x; exact ⟨ob, k _ _ (.inl rfl) e⟩
  | xd fs => obtain ⟨mA, ⟨od, es, ep, e, c⟩, r⟩ := x; exact ⟨mA, ⟨od, es, ep, k _ _ (.inl rfl) e, c⟩, r⟩
  | rng lo hi => obtain ⟨t, u, v, e⟩ := x; exact ⟨t, u, v, k _ _ (.inl rfl) e⟩
  | frz ob u ih => obtain ⟨e, q⟩ := x; exact ⟨k _ _ (.inl rfl) e, ih q⟩
  | tbl ps =>
    have e : h.get? a = some { cls := .none, data := .fields ps } := x
    show h'.get? a = some { cls := .none, data := .fields ps }
    exact k a _ (.inl rfl) e
  | met f y =>
    have e : h.get? a = some (PySem.W.methodObj (.ref f) (.ref y)) := x
    show h'.get? a = some (PySem.W.methodObj (.ref f) (.ref y))
    exact k a _ (.inl rfl) e
  | ext φ => obtain ⟨p, ⟨o, e⟩, st⟩ := x; exact ⟨st _ _ p fun o q => k _ _ (.inl rfl) q, ⟨o, k _ _ (.inl rfl) e⟩, st⟩
theorem HOk.lt (x : HOk P w H h) (e : H a = some o) : a < h.objs.size := (x a o e).lt
theorem HOk.fresh (x : HOk P w H h) (e : h.objs.size ≤ a) : H a = none := by
  cases q : H a with
  | none => rfl
  | some u => exact absurd (Nat.lt_of_lt_of_le (x.lt q) e) (Nat.lt_irrefl _)
/-- every object of the heap is kept -/
theorem HOk.kept (x : HOk P w H h) (k : ∀ b u, h.get? b = some u → h'.get? b = some u) : HOk P w H h' := fun a o e =>
  (x a o e).stay (fun b u _ q => k b u q) (fun _ q => q) fun _ _ q => q
/-- a new object is laid and tracked -/
theorem HOk.laid (x : HOk P w H h) (k : ∀ b u, h.get? b = some u → h'.get? b = some u) (hp : h.objs.size ≤ a) (new : ObjOk P w (upd H a o) h' a o) : HOk P w (upd H a o) h' := fun b u e => by
  have hn := x.fresh hp
  by_cases hb : b = a
  · subst hb; rw [upd_same] at e; cases e; exact new
  · rw [upd_ne hb] at e
    exact (x b u e).stay (fun c v _ q => k c v q) (fun c q => by rw [upd_ne (ne_of_none q hn)]; exact q) fun c xs q => by rw [upd_ne (ne_of_none q hn)]; exact q
end

/-- what may be read as u: it is u, or a known u -/
def Rd (H : Hp) (a : Addr) (u : HO) : Prop := H a = some u ∨ ∃ o, H a = some (.frz o u)
theorem Rd.of {H : Hp} {a : Addr} {u : HO} (h : H a = some u) : Rd H a u := .inl h
theorem Rd.ok {P : Program} {w : World} {H : Hp} {h : Heap} {a : Addr} {u : HO} (r : Rd H a u) (x : HOk P w H h) : ObjOk P w H h a u := by
  rcases r with r | ⟨o, r⟩
  · exact x a u r
  · obtain ⟨_, q⟩ := x a _ r
    exact q
/-- what may be written -/
def Mut : Option HO → Prop
  | some (.lst _) => True
  | some (.dK _) => True
  | some (.dT _) => True
  | some (.set _ _) => True
  | some (.ins _ _ _) => True
  | some (.ext _) => True
  | _ => False
section
variable {P : Program} {w : World} {H : Hp} {h h' : Heap} {x e : Addr} {o' : HO}
/-- the object at e is changed: x itself, or the dict of the instance x -/
theorem HOk.write (ok : HOk P w H h) (mu : Mut (H x)) (he : e = x ∨ H e = some (.own x)) (k : ∀ b u, b ≠ e → h.get? b = some u → h'.get? b = some u) (heo : ∃ u, h'.get? e = some u)
    (new : ObjOk P w (upd H x o') h' x o') : HOk P w (upd H x o') h' := fun b u q => by
  have nown : ∀ c y, H c = some (.own y) → c ≠ x := fun c y r z => by subst z; rw [r] at mu; exact mu
  have ntup : ∀ c xs, H c = some (.tup xs) → c ≠ x := fun c xs r z => by subst z; rw [r] at mu; exact mu
  by_cases hb : b = x
  · subst hb; rw [upd_same] at q; cases q; exact new
  · rw [upd_ne hb] at q
    by_cases hbe : b = e
    · have q' : H b = some (.own x) := by
        rcases he with z | z
        · exact absurd (hbe.trans z) hb
        · rw [hbe]; exact z
      rw [q] at q'; cases q'
      obtain ⟨v, hv⟩ := heo
      exact ⟨v, by rw [hbe]; exact hv⟩
    · refine (ok b u q).stay (fun c v hc r => k c v ?_ r) (fun c r => by rw [upd_ne (nown c b r)]; exact r) fun c xs r => by rw [upd_ne (ntup c xs r)]; exact r
      rcases hc with rfl | hc
      · exact hbe
      · rintro rfl
        rcases he with z | z
        · exact nown c b hc z
        · rw [hc] at z; cases z; exact hb rfl
end

/-! ### kept unless tracked; of the frames at fs (the callers') the slots may change (an exception that passes writes there); of the records at ex (iterators) nothing is said -/
structure Un (fs ex : List Addr) (H H' : Hp) (h h' : Heap) : Prop where
  keep : ∀ b o, h.get? b = some o → H b = none → b ∉ fs → b ∉ ex → h'.get? b = some o
  slot : ∀ b o, h.get? b = some o → H b = none → b ∈ fs → b ∉ ex → ∃ sl, h'.get? b = some { o with slots := sl }
  free : ∀ b o, h.get? b = some o → H b = none → b ∉ ex → H' b = none
  there : ∀ b o, h.get? b = some o → b ∉ ex → ∃ o', h'.get? b = some o'
  tups : ∀ b xs, H b = some (.tup xs) → H' b = some (.tup xs)
  frzs : ∀ b o u, H b = some (.frz o u) → H' b = some (.frz o u)
  tbls : ∀ b ps, H b = some (.tbl ps) → ∃ more, H' b = some (.tbl (ps ++ more))
section
variable {fs fs' ex ex' : List Addr} {H H1 H2 : Hp} {h h1 h2 h' : Heap} {a x e : Addr} {o : HO}
theorem Un.any (u : Un fs ex H H1 h h1) {b : Addr} {ob : Obj} (q : h.get? b = some ob) (n : H b = none) (hx : b ∉ ex) : ∃ sl, h1.get? b = some { ob with slots := sl } := by
  by_cases hb : b ∈ fs
  · exact u.slot b ob q n hb hx
  · exact ⟨ob.slots, u.keep b ob q n hb hx⟩
theorem Un.trans (a : Un fs ex H H1 h h1) (b : Un fs ex H1 H2 h1 h2) : Un fs ex H H2 h h2 where
  keep := fun c ob q n hc hx => b.keep c ob (a.keep c ob q n hc hx) (a.free c ob q n hx) hc hx
  slot := fun c ob q n hc hx => by
    obtain ⟨sl, e1⟩ := a.slot c ob q n hc hx
    obtain ⟨sl', e2⟩ := b.slot c _ e1 (a.free c ob q n hx) hc hx
    exact ⟨sl', e2⟩
  free := fun c ob q n hx => by
    obtain ⟨o', e1⟩ := a.there c ob q hx
    exact b.free c o' e1 (a.free c ob q n hx) hx
  there := fun c ob q hx => by
    obtain ⟨o', e1⟩ := a.there c ob q hx
    exact b.there c o' e1 hx
  tups := fun c xs q => b.tups c xs (a.tups c xs q)
  frzs := fun c ob xs q => b.frzs c ob xs (a.frzs c ob xs q)
  tbls := fun c ps q => by
    obtain ⟨m1, e1⟩ := a.tbls c ps q
    obtain ⟨m2, e2⟩ := b.tbls c _ e1
    exact ⟨m1 ++ m2, by rw [e2, Array.append_assoc]⟩
theorem Un.kept (k : ∀ b u, h.get? b = some u → h'.get? b = some u) : Un fs ex H H h h' :=
  ⟨fun b ob q _ _ _ => k b ob q, fun b ob q _ _ _ => ⟨ob.slots, k b ob q⟩, fun _ _ _ n _ => n, fun b ob q _ => ⟨ob, k b ob q⟩, fun _ _ q => q, fun _ _ _ q => q, fun _ ps q => ⟨#[], by rw [q]; simp⟩⟩
theorem Un.refl : Un fs ex H H h h := Un.kept fun _ _ q => q
theorem Un.laid (k : ∀ b u, h.get? b = some u → h'.get? b = some u) (hp : h.objs.size ≤ a) (hn : H a = none) : Un fs ex H (upd H a o) h h' where
  keep := fun b u q _ _ _ => k b u q
  slot := fun b u q _ _ _ => ⟨u.slots, k b u q⟩
  free := fun b u q n _ => by rw [upd_ne (Nat.ne_of_lt (Nat.lt_of_lt_of_le (Heap.lt_size q) hp))]; exact n
  there := fun b u q _ => ⟨u, k b u q⟩
  tups := fun b xs q => by rw [upd_ne (ne_of_none q hn)]; exact q
  frzs := fun b u xs q => by rw [upd_ne (ne_of_none q hn)]; exact q
  tbls := fun b ps q => ⟨#[], by rw [upd_ne (ne_of_none q hn), q]; simp⟩
theorem Un.write (mu : Mut (H x)) (he : e = x ∨ H e = some (.own x)) (k : ∀ b u, b ≠ e → h.get? b = some u → h'.get? b = some u) (heo : ∃ u, h'.get? e = some u) : Un fs ex H (upd H x o) h h' := by
  have hx : ∀ b, H b = none → b ≠ x := fun b n z => by subst z; rw [n] at mu; exact mu
  have hb : ∀ b, H b = none → b ≠ e := fun b n z => by
    subst z
    rcases he with r | r
    · exact hx b n r
    · rw [n] at r; cases r
  have hm : ∀ b u, H b = some u → ¬ Mut (some u) → b ≠ x := fun b u q nm z => by subst z; rw [q] at mu; exact nm mu
  refine ⟨fun b u q n _ _ => k b u (hb b n) q, fun b u q n _ _ => ⟨u.slots, k b u (hb b n) q⟩, fun b u q n _ => by rw [upd_ne (hx b n)]; exact n, fun b u q _ => ?_,
    fun b xs q => by rw [upd_ne (hm b _ q fun z => z)]; exact q, fun b u xs q => by rw [upd_ne (hm b _ q fun z => z)]; exact q, fun b ps q => ⟨#[], by rw [upd_ne (hm b _ q fun z => z), q]; simp⟩⟩
  by_cases hbe : b = e
  · subst hbe; exact heo
  · exact ⟨u, k b u hbe q⟩
theorem Un.mono (u : Un fs ex H H1 h h1) (hs : ∀ b ∈ fs, b ∈ fs') (hx : ∀ b ∈ ex, b ∈ ex') : Un fs' ex' H H1 h h1 :=
  ⟨fun b ob q n hb he => u.keep b ob q n (fun z => hb (hs b z)) fun z => he (hx b z), fun _ _ q n _ he => u.any q n fun z => he (hx _ z), fun b ob q n he => u.free b ob q n fun z => he (hx b z), fun b ob q he => u.there b ob q fun z => he (hx b z), u.tups, u.frzs, u.tbls⟩
end

/-! ### the heap without what is tracked -/
def trk (h : Heap) (H : Hp) : List Addr := (List.range h.objs.size).filter fun a => (H a).isSome
def hidT (h : Heap) (H : Hp) : Heap := PySem.W.hideAll h (trk h H)
theorem hidT_size (h : Heap) (H : Hp) : (hidT h H).objs.size = h.objs.size := PySem.W.hideAll_size _ _
theorem hidT_get {h : Heap} {H : Hp} {b : Addr} {o : Obj} (e : h.get? b = some o) (n : H b = none) : (hidT h H).get? b = some o :=
  PySem.W.hideAll_get _ e fun hm => by
    have q : (H b).isSome = true := (List.mem_filter.mp hm).2
    rw [n] at q; simp at q
theorem of_hidT {h : Heap} {H : Hp} {b : Addr} {o : Obj} (e : (hidT h H).get? b = some o) : h.get? b = some o ∧ H b = none := by
  have e' : h.get? b = some o := PySem.W.of_hideAll (trk h H) e
  refine ⟨e', ?_⟩
  cases q : H b with
  | none => rfl
  | some x =>
    have hm : b ∈ trk h H := List.mem_filter.mpr ⟨List.mem_range.mpr (Heap.lt_size e'), by simp [q]⟩
    have z : (hidT h H).get? b = none := PySem.W.hideAll_none (trk h H) hm
    rw [z] at e; cases e

/-! ### OpenK's ledger, filled with every new object but one -/
def allNews (g h : Heap) (L : Addr) : List (Addr × Obj) := (List.range h.objs.size).filterMap fun a => if a = L ∨ (g.get? a).isSome = true then none else (h.get? a).map fun o => (a, o)
def rest (g h : Heap) (L d : Addr) : List (Addr × Obj) := (allNews g h L).filter fun p => decide (p.1 ≠ d)
end L2

namespace L2
open PySem PySem.Spec PyProof.Rows

/-- the module's facts, over the base: the heap at the law's entry without what is tracked there -/
structure Mod (K : PySem.W.Frag) (mg : Str → Option Value) (base : Heap) : Prop where
  kin : K.In base
  glob : base.Ns mainGlobals mg
  blt : ∃ mb, base.Ns builtinsNs mb ∧ ∀ x : Str, x ≠ "__name__" → mb x = bootBuiltins x
  nolimit : base.NoLimit

/-- the context: a def's body (or a comprehension's block) running. base: fixed through the whole law; s₀, H₀: the entry; outer: the frames whose slots others may change (a def's callers); stack: all frames that run;
   ex: iterators that were made ahead of the entry and are walked here (a comprehension's); fn: the names whose cells were made at the entry (a def: all; a comprehension's block: its own); calm: not within an except suite; pn: pins that every state bears; xe: what is wanted of an exception that leaves the code -/
structure Cx where
  prog : Program
  w : World
  K : PySem.W.Frag
  mg : Str → Option Value
  base : Heap
  A : Around
  N : List Str
  s₀ : Shared
  H₀ : Hp
  env : Env
  outer : List Env
  stack : List Env
  ex : List Addr
  fn : Str → Bool
  calm : Bool
  pn : List (Addr × Obj)
  xe : Value → Shared → Prop
/-- the callers' frames -/
def frs (l : List Env) : List Addr := l.filterMap (·.frame)
abbrev Cx.fs (X : Cx) : List Addr := frs X.outer

def Vis (sc : Scope) (x : Str) : Prop := sc.names.lookup x = some .local ∨ sc.names.lookup x = some .cell ∨ sc.names.lookup x = some .free
def Loc (sc : Scope) (x : Str) : Prop := sc.names.lookup x = some .local ∨ sc.names.lookup x = some .cell
def Look (env : Env) (h : Heap) (m : Str → Option Value) (x : Str) (u : Value) : Prop :=
  (env.kindOf x = some .local ∧ m x = some u) ∨ ((env.kindOf x = some .cell ∨ env.kindOf x = some .free) ∧ ∃ c, env.cells.lookup x = some c ∧ h.IsCell c (some u))

structure Cx.Ok (X : Cx) : Prop where
  mod : Mod X.K X.mg X.base
  kind : X.env.scope.kind = .function
  glob : X.env.globals = mainGlobals
  blt : X.env.builtins = builtinsNs
  above : X.s₀.heap.objs.size ≤ X.env.locals
  inj : ∀ x y c, X.env.cells.lookup x = some c → X.env.cells.lookup y = some c → x = y
  has : ∀ x, (X.env.kindOf x = some .cell ∨ X.env.kindOf x = some .free) → ∃ c, X.env.cells.lookup x = some c
  cab : ∀ x c, X.fn x = true → X.env.cells.lookup x = some c → X.s₀.heap.objs.size ≤ c
  hd : X.calm = true → X.A.handled = none
  frames : X.A.frames = some X.stack
  stk : X.stack = X.outer ∨ (X.stack = X.env :: X.outer ∧ X.env.frame = some X.env.locals)
  exf : ∀ b ∈ X.ex, b ≠ X.env.locals ∧ ∀ x c, X.env.cells.lookup x = some c → c ≠ b
  bs : ∀ b o, X.base.get? b = some o → X.s₀.heap.get? b = some o ∧ X.H₀ b = none
  bsz : X.base.objs.size ≤ X.s₀.heap.objs.size
  noex : ∀ b o, X.base.get? b = some o → b ∉ X.ex
  exfs : ∀ b ∈ X.ex, b ∉ X.fs
  funs : X.s₀.heap.FunFrames X.base X.outer
  frf : ∀ b ∈ X.fs, X.H₀ b = none

structure Inv (X : Cx) (pins : List (Addr × Obj)) (σ : List (Option V)) (H : Hp) (s : Shared) : Prop where
  ok : X.Ok
  os : s.os = X.s₀.os
  bare : AllBare s.gens
  base : Un X.fs X.ex X.H₀ H X.s₀.heap s.heap
  loc : ∃ m, s.heap.Ns X.env.locals m ∧ ∀ (i : Nat) (x : Str) (v : V), X.N[i]? = some x → σ[i]? = some (some v) → Vis X.env.scope x → ∃ u, RelV v u ∧ Look X.env s.heap m x u
  cell : ∀ x c, X.env.cells.lookup x = some c → ∃ v, s.heap.IsCell c v
  free : H X.env.locals = none
  freeC : ∀ x c, X.env.cells.lookup x = some c → H c = none
  pin : ∀ p ∈ X.pn ++ pins, s.heap.get? p.1 = some p.2 ∧ H p.1 = none ∧ p.1 ≠ X.env.locals ∧ p.1 ∉ X.fs ∧ ∀ v, p.2.data ≠ .cell v
  hok : HOk X.prog X.w H s.heap
  len : σ.length = X.N.length

section
variable {X : Cx} {pins : List (Addr × Obj)} {σ : List (Option V)} {H H' : Hp} {s : Shared} {h' : Heap}

theorem Cx.Ok.nofr (ok : X.Ok) {b : Addr} {o : Obj} (e : X.base.get? b = some o) : b ∉ X.fs := fun hb => by
  have := (ok.funs.mem hb).1
  rw [e] at this; cases this
theorem Inv.bs (I : Inv X pins σ H s) : ∀ b o, X.base.get? b = some o → s.heap.get? b = some o ∧ H b = none := fun b o e =>
  ⟨I.base.keep b o (I.ok.bs b o e).1 (I.ok.bs b o e).2 (I.ok.nofr e) (I.ok.noex b o e), I.base.free b o (I.ok.bs b o e).1 (I.ok.bs b o e).2 (I.ok.noex b o e)⟩
theorem Inv.bk (I : Inv X pins σ H s) : ∀ b o, X.base.get? b = some o → s.heap.get? b = some o := fun b o e => (I.bs b o e).1
theorem Inv.mod (I : Inv X pins σ H s) : Mod X.K X.mg X.base := I.ok.mod
theorem Inv.kIn (I : Inv X pins σ H s) : X.K.In s.heap := I.ok.mod.kin.keeps I.bk
theorem Inv.nolimit (I : Inv X pins σ H s) : s.heap.NoLimit := I.ok.mod.nolimit.keeps I.bk
/-- the frame over the base: for OpenK's rules (K.In X.base is I.mod.kin) -/
theorem Inv.fr (I : Inv X pins σ H s) : ∃ m, Fr X.base X.env.locals s.heap m :=
  let ⟨m, hn, _⟩ := I.loc
  ⟨m, hn, I.bk, Nat.le_trans I.ok.bsz I.ok.above⟩
theorem Inv.lt (I : Inv X pins σ H s) : X.env.locals < s.heap.objs.size := let ⟨_, hn, _⟩ := I.loc; hn.lt
theorem Inv.sz (I : Inv X pins σ H s) : X.s₀.heap.objs.size ≤ s.heap.objs.size := Nat.le_trans I.ok.above (Nat.le_of_lt I.lt)
theorem Inv.nofs (I : Inv X pins σ H s) {a : Addr} (h : s.heap.objs.size ≤ a) : a ∉ X.fs := fun hb => by
  obtain ⟨_, o, ho, _⟩ := I.ok.funs.mem hb
  exact absurd (Nat.lt_of_lt_of_le (Heap.lt_size ho) (Nat.le_trans I.sz h)) (Nat.lt_irrefl _)
theorem Inv.cne (I : Inv X pins σ H s) : ∀ x c, X.env.cells.lookup x = some c → c ≠ X.env.locals := fun x c e z => by
  obtain ⟨v, o, ho, hd⟩ := I.cell x c e
  obtain ⟨m, ⟨o', es, ep, ho', hd', _⟩, _⟩ := I.loc
  rw [z, ho'] at ho; cases ho; rw [hd'] at hd; cases hd
theorem Inv.funs (I : Inv X pins σ H s) : s.heap.FunFrames X.base X.outer := by
  have all : ∀ (l : List Env), (∀ b ∈ frs l, b ∈ X.fs) → X.s₀.heap.FunFrames X.base l → s.heap.FunFrames X.base l := by
    intro l
    induction l with
    | nil => intro _ _; trivial
    | cons env r ih =>
      intro hs hl
      obtain ⟨hk, ⟨L, o, hf, hn, ho, hd⟩, hr⟩ := hl
      have hL : L ∈ X.fs := hs L (by unfold frs; rw [List.filterMap_cons, hf]; exact List.mem_cons_self)
      obtain ⟨sl, e⟩ := I.base.slot L o ho (I.ok.frf L hL) hL fun z => I.ok.exfs L z hL
      exact ⟨hk, ⟨L, _, hf, hn, e, hd⟩, ih (fun b hb => hs b (by unfold frs; rw [List.filterMap_cons, hf]; exact List.mem_cons_of_mem _ hb)) hr⟩
  exact all X.outer (fun _ hb => hb) I.ok.funs

/-- the frames that run, for a call -/
theorem Inv.stack (I : Inv X pins σ H s) : s.heap.FunFrames X.base X.stack := by
  rcases I.ok.stk with e | ⟨e, hf⟩
  · rw [e]; exact I.funs
  · rw [e]
    obtain ⟨m, hn, _⟩ := I.loc
    refine .cons (by rw [I.ok.kind]; decide) hf hn ?_ I.funs
    exact Heap.get?_none_of_le (Nat.le_trans I.ok.bsz I.ok.above)
theorem Inv.stkSub (I : Inv X pins σ H s) : ∀ b ∈ frs X.stack, b ∈ X.env.locals :: X.fs := fun b hb => by
  rcases I.ok.stk with e | ⟨e, hf⟩
  · rw [e] at hb; exact List.mem_cons_of_mem _ hb
  · rw [e] at hb
    unfold frs at hb
    rw [List.filterMap_cons, hf] at hb
    exact hb
theorem Inv.stkFree (I : Inv X pins σ H s) : ∀ b ∈ frs X.stack, H b = none := fun b hb => by
  rcases List.mem_cons.mp (I.stkSub b hb) with e | hb
  · rw [e]; exact I.free
  · obtain ⟨_, o, ho, _⟩ := I.ok.funs.mem hb
    exact I.base.free b o ho (I.ok.frf b hb) fun z => I.ok.exfs b z hb

/-- THE STEP: the untracked objects but the frame and the records at ch are kept (the callers' frames up to slots), the frame's map is kept, the new abstract heap is held -/
theorem Inv.step {g' : Array GenState} {t' : Nat} {d' : Drawn} {ch : List Addr} (I : Inv X pins σ H s)
    (hch : ∀ b ∈ ch, (b ∈ X.ex ∨ X.s₀.heap.objs.size ≤ b) ∧ b ≠ X.env.locals ∧ (∀ x c, X.env.cells.lookup x = some c → c ≠ b) ∧ ∀ p ∈ X.pn ++ pins, p.1 ≠ b)
    (keep : ∀ b o, b ≠ X.env.locals → b ∉ X.fs → b ∉ ch → s.heap.get? b = some o → H b = none → h'.get? b = some o)
    (slot : ∀ b o, b ≠ X.env.locals → b ∈ X.fs → b ∉ ch → s.heap.get? b = some o → H b = none → ∃ sl, h'.get? b = some { o with slots := sl }) (free : ∀ b o, b ∉ ch → s.heap.get? b = some o → H b = none → H' b = none)
    (there : ∀ b o, b ∉ ch → s.heap.get? b = some o → ∃ o', h'.get? b = some o')
    (tups : ∀ b xs, H b = some (.tup xs) → H' b = some (.tup xs)) (frzs : ∀ b o u, H b = some (.frz o u) → H' b = some (.frz o u)) (tbls : ∀ b ps, H b = some (.tbl ps) → ∃ more, H' b = some (.tbl (ps ++ more)))
    (ns : ∀ m, s.heap.Ns X.env.locals m → h'.Ns X.env.locals m) (hok : HOk X.prog X.w H' h') (hg : AllBare g') :
    Inv X pins σ H' { s with heap := h', gens := g', drawn := d', toks := t' } := by
  have neL : ∀ b o, X.s₀.heap.get? b = some o → b ≠ X.env.locals := fun b o e => Nat.ne_of_lt (Nat.lt_of_lt_of_le (Heap.lt_size e) I.ok.above)
  have neC : ∀ b o, X.s₀.heap.get? b = some o → b ∉ X.ex → b ∉ ch := fun b o e hx hb => by
    rcases (hch b hb).1 with z | z
    · exact hx z
    · exact absurd (Nat.lt_of_lt_of_le (Heap.lt_size e) z) (Nat.lt_irrefl _)
  have cellK : ∀ x c, X.env.cells.lookup x = some c → ∀ v, s.heap.IsCell c v → h'.IsCell c v := fun x c e v ⟨o, ho, hd⟩ => by
    have nch : c ∉ ch := fun z => (hch c z).2.2.1 x c e rfl
    by_cases hc : c ∈ X.fs
    · obtain ⟨sl, q⟩ := slot c o (I.cne x c e) hc nch ho (I.freeC x c e)
      exact ⟨_, q, hd⟩
    · exact ⟨o, keep c o (I.cne x c e) hc nch ho (I.freeC x c e), hd⟩
  refine ⟨I.ok, I.os, hg, ⟨fun b o e n hb hx => ?_, fun b o e n hb hx => ?_, fun b o e n hx => ?_, fun b o e hx => ?_, fun b xs e => tups b xs (I.base.tups b xs e), fun b o xs e => frzs b o xs (I.base.frzs b o xs e), fun b ps e => ?_⟩, ?_, fun x c e => ?_, ?_, fun x c e => ?_, fun p hp => ?_, hok, I.len⟩
  · exact keep b o (neL b o e) hb (neC b o e hx) (I.base.keep b o e n hb hx) (I.base.free b o e n hx)
  · obtain ⟨sl, e1⟩ := I.base.slot b o e n hb hx
    obtain ⟨sl', e2⟩ := slot b _ (neL b o e) hb (neC b o e hx) e1 (I.base.free b o e n hx)
    exact ⟨sl', e2⟩
  · obtain ⟨o', e1⟩ := I.base.there b o e hx
    exact free b o' (neC b o e hx) e1 (I.base.free b o e n hx)
  · obtain ⟨o', e1⟩ := I.base.there b o e hx
    exact there b o' (neC b o e hx) e1
  · obtain ⟨m1, e1⟩ := I.base.tbls b ps e
    obtain ⟨m2, e2⟩ := tbls b _ e1
    exact ⟨m1 ++ m2, by rw [e2, Array.append_assoc]⟩
  · obtain ⟨m, hn, hl⟩ := I.loc
    refine ⟨m, ns m hn, fun i x v e1 e2 e3 => ?_⟩
    obtain ⟨u, r, l⟩ := hl i x v e1 e2 e3
    refine ⟨u, r, ?_⟩
    rcases l with l | ⟨k, c, e, z⟩
    · exact .inl l
    · exact .inr ⟨k, c, e, cellK x c e _ z⟩
  · obtain ⟨v, z⟩ := I.cell x c e
    exact ⟨v, cellK x c e v z⟩
  · obtain ⟨m, ⟨o, _, _, ho, _⟩, _⟩ := I.loc
    exact free _ o (fun z => (hch _ z).2.1 rfl) ho I.free
  · obtain ⟨v, o, ho, hd⟩ := I.cell x c e
    exact free c o (fun z => (hch c z).2.2.1 x c e rfl) ho (I.freeC x c e)
  · obtain ⟨e, n, ne, nf, d⟩ := I.pin p hp
    have nch : p.1 ∉ ch := fun z => (hch p.1 z).2.2.2 p hp rfl
    exact ⟨keep p.1 p.2 ne nf nch e n, free p.1 p.2 nch e n, ne, nf, d⟩
/-- .. where the frame's own object is kept too -/
theorem Inv.un {t' : Nat} (I : Inv X pins σ H s) (u : Un X.fs [] H H' s.heap h') (hok : HOk X.prog X.w H' h') : Inv X pins σ H' { s with heap := h', toks := t' } := by
  obtain ⟨m, ⟨o, es, ep, ho, r⟩, _⟩ := id I.loc
  obtain ⟨sl, hL⟩ := u.any ho I.free (by simp)
  exact I.step (g' := s.gens) (d' := s.drawn) (ch := []) (fun _ z => nomatch z) (fun b o _ hb _ e n => u.keep b o e n hb (by simp)) (fun b o _ hb _ e n => u.slot b o e n hb (by simp)) (fun b o _ e n => u.free b o e n (by simp)) (fun b o _ e => u.there b o e (by simp)) u.tups u.frzs u.tbls (fun m' hm => by
    obtain ⟨o', es', ep', ho', r'⟩ := hm
    rw [ho] at ho'; cases ho'
    exact ⟨_, es', ep', hL, r'⟩) hok I.bare
/-- behind a call (or a comprehension's block): the slots of this frame may have changed too, the records at ch may have turned -/
theorem Inv.call {g' : Array GenState} {t' : Nat} {d' : Drawn} {ch : List Addr} (I : Inv X pins σ H s) (u : Un (frs X.stack) ch H H' s.heap h') (hok : HOk X.prog X.w H' h') (hg : AllBare g')
    (hch : ∀ b ∈ ch, (b ∈ X.ex ∨ X.s₀.heap.objs.size ≤ b) ∧ b ≠ X.env.locals ∧ (∀ x c, X.env.cells.lookup x = some c → c ≠ b) ∧ ∀ p ∈ X.pn ++ pins, p.1 ≠ b) :
    Inv X pins σ H' { s with heap := h', gens := g', drawn := d', toks := t' } := by
  obtain ⟨m, ⟨o, es, ep, ho, r⟩, _⟩ := id I.loc
  obtain ⟨sl, hL⟩ := u.any ho I.free fun z => (hch _ z).2.1 rfl
  exact I.step (ch := ch) hch (fun b o hL hb hc e n => u.keep b o e n (fun z => (List.mem_cons.mp (I.stkSub b z)).elim hL hb) hc) (fun b o _ _ hc e n => u.any e n hc) (fun b o hc e n => u.free b o e n hc) (fun b o hc e => u.there b o e hc) u.tups u.frzs u.tbls (fun m' hm => by
    obtain ⟨o', es', ep', ho', r'⟩ := hm
    rw [ho] at ho'; cases ho'
    exact ⟨_, es', ep', hL, r'⟩) hok hg
/-- an untracked record of ours (an iterator) has turned -/
theorem Inv.turned {t' : Nat} {it : Addr} (I : Inv X pins σ H s) (k : ∀ b o, b ≠ it → s.heap.get? b = some o → h'.get? b = some o) (hn : H it = none) (hL : it ≠ X.env.locals)
    (h1 : it ∈ X.ex ∨ X.s₀.heap.objs.size ≤ it) (h2 : ∀ x c, X.env.cells.lookup x = some c → c ≠ it) (h3 : ∀ p ∈ X.pn ++ pins, p.1 ≠ it) : Inv X pins σ H { s with heap := h', toks := t' } := by
  have nit : ∀ b u, H b = some u → b ≠ it := fun b u e z => by rw [z, hn] at e; cases e
  refine I.step (g' := s.gens) (d' := s.drawn) (ch := [it]) (fun b hb => ?_) (fun b o _ _ hc e _ => k b o (fun z => hc (by simp [z])) e) (fun b o _ _ hc e _ => ⟨o.slots, k b o (fun z => hc (by simp [z])) e⟩) (fun _ _ _ _ n => n)
    (fun b o hc e => ⟨o, k b o (fun z => hc (by simp [z])) e⟩) (fun _ _ e => e) (fun _ _ _ e => e) (fun b ps e => ⟨#[], by rw [e]; simp⟩) (fun m hm => ?_) (fun b u e => ?_) I.bare
  · have e : b = it := by simpa using hb
    subst e
    exact ⟨h1, hL, h2, h3⟩
  · obtain ⟨o, es, ep, ho, r⟩ := hm
    exact ⟨o, es, ep, k _ o (Ne.symm hL) ho, r⟩
  · refine (I.hok b u e).stay (fun c v hc q => k c v ?_ q) (fun _ q => q) fun _ _ q => q
    rcases hc with z | z
    · rw [z]; exact nit b u e
    · exact nit c _ z
theorem Inv.tok (I : Inv X pins σ H s) (t : Nat) : Inv X pins σ H { s with toks := t } := I.un (h' := s.heap) (t' := t) Un.refl I.hok
/-- all objects kept -/
theorem Inv.kept {t' : Nat} (I : Inv X pins σ H s) (k : ∀ b u, s.heap.get? b = some u → h'.get? b = some u) : Inv X pins σ H { s with heap := h', toks := t' } := I.un (Un.kept k) (I.hok.kept k)
/-- a new object laid and tracked -/
theorem Inv.laid {a : Addr} {o : HO} {t' : Nat} (I : Inv X pins σ H s) (k : ∀ b u, s.heap.get? b = some u → h'.get? b = some u) (hp : s.heap.objs.size ≤ a) (new : ObjOk X.prog X.w (upd H a o) h' a o) :
    Inv X pins σ (upd H a o) { s with heap := h', toks := t' } := I.un (Un.laid k hp (I.hok.fresh hp)) (I.hok.laid k hp new)
/-- an object written -/
theorem Inv.write {x e : Addr} {o : HO} {t' : Nat} (I : Inv X pins σ H s) (mu : Mut (H x)) (he : e = x ∨ H e = some (.own x)) (k : ∀ b u, b ≠ e → s.heap.get? b = some u → h'.get? b = some u) (heo : ∃ u, h'.get? e = some u)
    (new : ObjOk X.prog X.w (upd H x o) h' x o) : Inv X pins σ (upd H x o) { s with heap := h', toks := t' } := I.un (Un.write mu he k heo) (I.hok.write mu he k heo new)
theorem Inv.pins_of {pins' : List (Addr × Obj)} (I : Inv X pins σ H s) (h : ∀ p ∈ pins', s.heap.get? p.1 = some p.2 ∧ H p.1 = none ∧ p.1 ≠ X.env.locals ∧ p.1 ∉ X.fs ∧ ∀ v, p.2.data ≠ .cell v) : Inv X pins' σ H s :=
  ⟨I.ok, I.os, I.bare, I.base, I.loc, I.cell, I.free, I.freeC, fun p hp => (List.mem_append.mp hp).elim (fun z => I.pin p (List.mem_append_left _ z)) (h p), I.hok, I.len⟩

theorem nodup_ix {N : List Str} (hN : N.Nodup) {i j : Nat} {x : Str} (a : N[i]? = some x) (b : N[j]? = some x) : i = j := by
  obtain ⟨h1, e1⟩ := List.getElem?_eq_some_iff.mp a
  obtain ⟨h2, e2⟩ := List.getElem?_eq_some_iff.mp b
  exact (List.getElem_inj hN).mp (e1.trans e2.symm)

/-- a name is stored; what changed -/
theorem store_ok2 {M : Model} {A : Around} {E : Value → Shared → Prop} {i : Nat} {x : Str} {v : V} {u : Value} {Q : Unit → Shared → Prop} (I : Inv X pins σ H s) (hN : X.N.Nodup) (hi : X.N[i]? = some x) (hx : Loc X.env.scope x) (r : RelV v u)
    (h : ∀ s', Inv X pins (σ.set i (some v)) H s' → (∃ a, Heap.SameBut a s.heap s'.heap ∧ (a = X.env.locals ∨ X.env.cells.lookup x = some a)) → Q () s') (hf : X.fn x = true ∨ X.env.scope.names.lookup x = some .local := by first | exact .inl rfl | exact .inr rfl | assumption) : wpAny M A (storeName X.env x u) Q E s := by
  obtain ⟨m, hn, hl⟩ := id I.loc
  have hcls : (X.env.scope.kind == .class || (X.env.scope.kind == .module && X.env.locals != X.env.globals)) = false := by rw [I.ok.kind]; rfl
  have hiσ : i < σ.length := by rw [I.len]; exact (List.getElem?_eq_some_iff.mp hi).1
  have cne := I.cne
  have tracked : ∀ {a : Addr} {h' : Heap}, (∃ o, s.heap.get? a = some o ∧ H a = none) → Heap.SameBut a s.heap h' → HOk X.prog X.w H h' := fun {a h'} ha hs b ob e => by
    obtain ⟨_, _, hfree⟩ := ha
    refine (I.hok b ob e).stay (fun c w' hc q => (hs.2 c ?_).trans q) (fun _ q => q) fun _ _ q => q
    rintro rfl
    rcases hc with rfl | hc
    · rw [hfree] at e; cases e
    · rw [hfree] at hc; cases hc
  rcases hx with hk | hk
  · refine wpAny_storeName_local hk hn (fun h' hn' hs => ?_) hcls
    obtain ⟨oL, _, _, hoL, _⟩ := id hn
    refine h _ ⟨I.ok, I.os, I.bare, ⟨fun b o e n hb hx => ?_, fun b o e n hb hx => ?_, I.base.free, fun b o e hx => ?_, I.base.tups, I.base.frzs, I.base.tbls⟩, ⟨_, hn', fun j y v' e1 e2 e3 => ?_⟩, fun y c e => ?_, I.free, I.freeC, fun p hp => ?_, tracked ⟨oL, hoL, I.free⟩ hs, by simpa using I.len⟩ ⟨_, hs, .inl rfl⟩
    · exact (hs.2 b (Nat.ne_of_lt (Nat.lt_of_lt_of_le (Heap.lt_size e) I.ok.above))).trans (I.base.keep b o e n hb hx)
    · obtain ⟨sl, e1⟩ := I.base.slot b o e n hb hx
      exact ⟨sl, (hs.2 b (Nat.ne_of_lt (Nat.lt_of_lt_of_le (Heap.lt_size e) I.ok.above))).trans e1⟩
    · obtain ⟨o', e1⟩ := I.base.there b o e hx
      exact ⟨o', (hs.2 b (Nat.ne_of_lt (Nat.lt_of_lt_of_le (Heap.lt_size e) I.ok.above))).trans e1⟩
    · by_cases hj : j = i
      · subst hj
        rw [hi] at e1; cases e1
        rw [List.getElem?_set_self hiσ] at e2
        cases e2
        exact ⟨u, r, .inl ⟨hk, by simp⟩⟩
      · rw [List.getElem?_set_ne (Ne.symm hj)] at e2
        obtain ⟨u', r', q⟩ := hl j y v' e1 e2 e3
        refine ⟨u', r', ?_⟩
        rcases q with ⟨k, e⟩ | ⟨k, c, e, z⟩
        · refine .inl ⟨k, ?_⟩
          have : y ≠ x := fun e => hj (nodup_ix hN e1 (e ▸ hi))
          simp [this, e]
        · exact .inr ⟨k, c, e, z.sameBut hs (cne y c e)⟩
    · obtain ⟨w', z⟩ := I.cell y c e
      exact ⟨w', z.sameBut hs (cne y c e)⟩
    · obtain ⟨e, n, ne, nf, d⟩ := I.pin p hp
      exact ⟨(hs.2 p.1 ne).trans e, n, ne, nf, d⟩
  · have hfn : X.fn x = true := by
      rcases hf with z | z
      · exact z
      · rw [z] at hk; cases hk
    obtain ⟨c, hc⟩ := I.ok.has x (.inl hk)
    obtain ⟨w', z⟩ := I.cell x c hc
    refine wpAny_storeName_cell I.ok.kind hk hc z (fun h' hc' hs => ?_)
    obtain ⟨oc, hoc, hocd⟩ := id z
    refine h { s with heap := h' } ⟨I.ok, I.os, I.bare, ⟨fun b o e n hb hx => ?_, fun b o e n hb hx => ?_, I.base.free, fun b o e hx => ?_, I.base.tups, I.base.frzs, I.base.tbls⟩, ⟨m, hn.sameBut hs (Ne.symm (cne x c hc)), fun j y v' e1 e2 e3 => ?_⟩, fun y c' e => ?_, I.free, I.freeC, fun p hp => ?_, tracked ⟨oc, hoc, I.freeC x c hc⟩ hs, by simpa using I.len⟩ ⟨c, hs, .inr hc⟩
    · exact (hs.2 b (Nat.ne_of_lt (Nat.lt_of_lt_of_le (Heap.lt_size e) (I.ok.cab x c hfn hc)))).trans (I.base.keep b o e n hb hx)
    · obtain ⟨sl, e1⟩ := I.base.slot b o e n hb hx
      exact ⟨sl, (hs.2 b (Nat.ne_of_lt (Nat.lt_of_lt_of_le (Heap.lt_size e) (I.ok.cab x c hfn hc)))).trans e1⟩
    · obtain ⟨o', e1⟩ := I.base.there b o e hx
      exact ⟨o', (hs.2 b (Nat.ne_of_lt (Nat.lt_of_lt_of_le (Heap.lt_size e) (I.ok.cab x c hfn hc)))).trans e1⟩
    · by_cases hj : j = i
      · subst hj
        rw [hi] at e1; cases e1
        rw [List.getElem?_set_self hiσ] at e2
        cases e2
        exact ⟨u, r, .inr ⟨.inl hk, c, hc, hc'⟩⟩
      · rw [List.getElem?_set_ne (Ne.symm hj)] at e2
        obtain ⟨u', r', q⟩ := hl j y v' e1 e2 e3
        refine ⟨u', r', ?_⟩
        rcases q with q | ⟨k, c', e, z'⟩
        · exact .inl q
        · refine .inr ⟨k, c', e, z'.sameBut hs ?_⟩
          rintro rfl
          exact hj (nodup_ix hN e1 (I.ok.inj _ _ _ e hc ▸ hi))
    · by_cases hcc : c' = c
      · subst hcc; exact ⟨_, hc'⟩
      · obtain ⟨w2, z2⟩ := I.cell y c' e
        exact ⟨w2, z2.sameBut hs hcc⟩
    · obtain ⟨e, n, ne, nf, d⟩ := I.pin p hp
      refine ⟨(hs.2 p.1 ?_).trans e, n, ne, nf, d⟩
      intro q
      rw [q, hoc] at e
      have q' : oc = p.2 := Option.some.inj e
      exact d w' (by rw [← q']; exact hocd)
theorem store_ok {M : Model} {A : Around} {E : Value → Shared → Prop} {i : Nat} {x : Str} {v : V} {u : Value} {Q : Unit → Shared → Prop} (I : Inv X pins σ H s) (hN : X.N.Nodup) (hi : X.N[i]? = some x) (hx : Loc X.env.scope x) (r : RelV v u)
    (h : ∀ s', Inv X pins (σ.set i (some v)) H s' → Q () s') (hf : X.fn x = true ∨ X.env.scope.names.lookup x = some .local := by first | exact .inl rfl | exact .inr rfl | assumption) : wpAny M A (storeName X.env x u) Q E s :=
  store_ok2 I hN hi hx r (fun s' I' _ => h s' I') hf
/-- behind a call or a block, the state as it is -/
theorem Inv.call' {s' : Shared} {ch : List Addr} (I : Inv X pins σ H s) (ho : s'.os = s.os) (u : Un (frs X.stack) ch H H' s.heap s'.heap) (hok : HOk X.prog X.w H' s'.heap) (hg : AllBare s'.gens)
    (hch : ∀ b ∈ ch, (b ∈ X.ex ∨ X.s₀.heap.objs.size ≤ b) ∧ b ≠ X.env.locals ∧ (∀ x c, X.env.cells.lookup x = some c → c ≠ b) ∧ ∀ p ∈ X.pn ++ pins, p.1 ≠ b) : Inv X pins σ H' s' := by
  obtain ⟨h', g', d', t', o'⟩ := s'
  have e : o' = s.os := ho
  subst e
  exact I.call (g' := g') (t' := t') (d' := d') u hok hg hch
end

/-! ### the judgements -/
/-- an exception: its class, its own dict's address (where it has one), the abstract heap behind it -/
abbrev XK := Value → Option Addr → Hp → Prop
abbrev St := List (Option V)
abbrev VK := V → Hp → Prop
/-- an expression's reading; a test's; an argument list's -/
abbrev TE := St → Hp → VK → Prop
abbrev TT := St → Hp → (Bool → Hp → Prop) → Prop
abbrev TA := St → Hp → (List V → Hp → Prop) → Prop
/-- what is wanted behind a statement -/
structure Ends where
  nx : St → Hp → Prop
  rt : VK
  bk : St → Hp → Prop := fun _ _ => False
  ct : St → Hp → Prop := fun _ _ => False
abbrev TS := Ends → St → Hp → Prop

def EP (X : Cx) (pins : List (Addr × Obj)) (σ : St) (Q : VK) (u : Value) (s' : Shared) : Prop := ∃ v H', Inv X pins σ H' s' ∧ RelV v u ∧ Q v H'
def TP (X : Cx) (pins : List (Addr × Obj)) (σ : St) (Q : Bool → Hp → Prop) (b : Bool) (s' : Shared) : Prop := ∃ H', Inv X pins σ H' s' ∧ Q b H'
def AP (X : Cx) (pins : List (Addr × Obj)) (σ : St) (Q : List V → Hp → Prop) (us : List Value) (s' : Shared) : Prop := ∃ vs H', Inv X pins σ H' s' ∧ Vals vs us ∧ Q vs H'
def SP (X : Cx) (pins : List (Addr × Obj)) (D : Ends) (f : Flow) (s' : Shared) : Prop :=
  match f with
  | .next => ∃ σ' H', Inv X pins σ' H' s' ∧ D.nx σ' H'
  | .brk => ∃ σ' H', Inv X pins σ' H' s' ∧ D.bk σ' H'
  | .cont => ∃ σ' H', Inv X pins σ' H' s' ∧ D.ct σ' H'
  | .ret u => ∃ v σ' H', Inv X pins σ' H' s' ∧ RelV v u ∧ D.rt v H'

def PE (X : Cx) (e : Expr) (t : TE) : Prop :=
  ∀ (pins : List (Addr × Obj)) (s : Shared) (σ : St) (H : Hp) (Q : VK), Inv X pins σ H s → t σ H Q → wpAny (model X.prog X.w) X.A (eval e X.env) (EP X pins σ Q) X.xe s
def PT (X : Cx) (e : Expr) (t : TT) : Prop :=
  ∀ (pins : List (Addr × Obj)) (s : Shared) (σ : St) (H : Hp) (Q : Bool → Hp → Prop), Inv X pins σ H s → t σ H Q → wpAny (model X.prog X.w) X.A (isTrue e X.env (eval e X.env)) (TP X pins σ Q) X.xe s
/-- a test whatever its 'whole' is (and, or) -/
def PW (X : Cx) (e : Expr) (t : TT) : Prop :=
  ∀ (whole : Sem Value) (pins : List (Addr × Obj)) (s : Shared) (σ : St) (H : Hp) (Q : Bool → Hp → Prop), Inv X pins σ H s → t σ H Q → wpAny (model X.prog X.w) X.A (isTrue e X.env whole) (TP X pins σ Q) X.xe s
theorem PW.pt {X : Cx} {e : Expr} {t : TT} (h : PW X e t) : PT X e t := h _
/-- an argument list (no star), from the left -/
def PA (X : Cx) (es : List Expr) (t : TA) : Prop :=
  ∀ (pos : Pos) (pins : List (Addr × Obj)) (s : Shared) (σ : St) (H : Hp) (Q : List V → Hp → Prop), Inv X pins σ H s → t σ H Q → wpAny (model X.prog X.w) X.A (spliced (backTo pos (starEach es X.env))) (AP X pins σ Q) X.xe s
def PS (X : Cx) (st : Stmt) (t : TS) : Prop :=
  ∀ (pins : List (Addr × Obj)) (s : Shared) (σ : St) (H : Hp) (D : Ends), Inv X pins σ H s → t D σ H → wpAny (model X.prog X.w) X.A (exec st X.env) (SP X pins D) X.xe s
def PSs (X : Cx) (st : List Stmt) (t : TS) : Prop :=
  ∀ (pins : List (Addr × Obj)) (s : Shared) (σ : St) (H : Hp) (D : Ends), Inv X pins σ H s → t D σ H → wpAny (model X.prog X.w) X.A (execs st X.env) (SP X pins D) X.xe s
/-- weaken the end -/
theorem thn {α : Type} {t : Sem α} {Q Q' : α → Shared → Prop} {M : Model} {A : Around} {E : Value → Shared → Prop} {s : Shared} (h : wpAny M A t Q E s) (hQ : ∀ a s, Q a s → Q' a s) : wpAny M A t Q' E s := wpAny_mono h hQ fun _ _ x => x
end L2

namespace L2
open PySem PySem.Spec PyProof.Rows
section
variable {X : Cx}

/-- two expressions in a row -/
theorem bin {a b : Expr} {ta tb : TE} (ha : PE X a ta) (hb : PE X b tb) {pins : List (Addr × Obj)} {s : Shared} {σ : St} {H : Hp} {R : V → V → Hp → Prop} (I : Inv X pins σ H s) (h : ta σ H fun x H1 => tb σ H1 fun y H2 => R x y H2)
    {α : Type} {Q : α → Shared → Prop} {f : Value → Value → Sem α}
    (hf : ∀ v u s2 x y H2, Inv X pins σ H2 s2 → RelV x v → RelV y u → R x y H2 → wpAny (model X.prog X.w) X.A (f v u) Q X.xe s2) :
    wpAny (model X.prog X.w) X.A (eval a X.env) (fun v s₁ => wpAny (model X.prog X.w) X.A (eval b X.env) (fun u s₂ => wpAny (model X.prog X.w) X.A (f v u) Q X.xe s₂) X.xe s₁) X.xe s := by
  refine thn (ha pins s σ H _ I h) fun v s1 ⟨x, H1, I1, r1, q1⟩ => ?_
  refine thn (hb pins s1 σ H1 _ I1 q1) fun u s2 ⟨y, H2, I2, r2, q2⟩ => ?_
  exact hf v u s2 x y H2 I2 r1 r2 q2

/-! ### names and constants -/
def tVar (i : Nat) : TE := fun σ H Q => ∃ v, σ[i]? = some (some v) ∧ Q v H
def tC (v : V) : TE := fun _ H Q => Q v H
theorem pe_var {i : Nat} {x : Str} {pos : Pos} (hN : X.N[i]? = some x) (hv : Vis X.env.scope x) (hd : (x == ("__debug__" : Str)) = false := by decide) (hcd : (x == ("__classdict__" : Str)) = false := by decide) : PE X (.Name x pos) (tVar i) := by
  intro pins s σ H Q I h
  obtain ⟨v, e, h⟩ := h
  obtain ⟨m, hn, hl⟩ := I.loc
  obtain ⟨u, r, l⟩ := hl i x v hN e hv
  have fin : EP X pins σ Q u s := ⟨v, H, I, r, h⟩
  rcases l with ⟨hk, hm⟩ | ⟨hk, c, hc, hcell⟩
  · exact wpAny_Name (wpAny_loadName_local I.ok.kind hk hn hm fin) hd
  · rcases hk with hk | hk
    · exact wpAny_Name (wpAny_loadName_cell I.ok.kind hk hc hcell fin) hd
    · exact wpAny_Name (wpAny_loadName_free I.ok.kind hk hc hcell fin hcd) hd
theorem pe_int {i j pos} : PE X (.Constant (.int i) j pos) (tC (.int i)) := fun _ _ _ H _ I h => wpAny_Constant_int ⟨.int i, H, I.tok _, ⟨_, rfl⟩, h⟩
theorem pe_bl {b j pos} : PE X (.Constant (.bool b) j pos) (tC (.bl b)) := fun _ _ _ H _ I h => Constant_bool ⟨.bl b, H, I, rfl, h⟩
theorem pe_non {j pos} : PE X (.Constant .none j pos) (tC .non) := fun _ _ _ H _ I h => Constant_none ⟨.non, H, I, rfl, h⟩
theorem pe_str {x j pos} : PE X (.Constant (.str x) j pos) (tC (.str x)) := fun _ _ _ H _ I h => Calls.Constant_str ⟨.str x, H, I.tok _, ⟨_, rfl⟩, h⟩

/-- a global name of the def -/
def Gl (X : Cx) (x : Str) : Prop := X.env.kindOf x = some .globalImplicit
theorem ld_glob {E : Value → Shared → Prop} {pins : List (Addr × Obj)} {s : Shared} {σ : St} {H : Hp} {x : Str} {u : Value} {pos : Pos} {Q : Value → Shared → Prop} (I : Inv X pins σ H s) (hg : Gl X x) (hm : X.mg x = some u) (h : Q u s)
    (hd : (x == ("__debug__" : Str)) = false := by decide) : wpAny (model X.prog X.w) X.A (eval (.Name x pos) X.env) Q E s :=
  Calls.Name_function_global I.ok.kind hg (Calls.loadGlobal_global (by rw [I.ok.glob]; exact I.mod.glob.keeps I.bk) hm h) hd
theorem ld_blt {E : Value → Shared → Prop} {pins : List (Addr × Obj)} {s : Shared} {σ : St} {H : Hp} {x : Str} {u : Value} {pos : Pos} {Q : Value → Shared → Prop} (I : Inv X pins σ H s) (hg : Gl X x) (hm : X.mg x = none) (hv : bootBuiltins x = some u) (h : Q u s)
    (hn : x ≠ "__name__" := by decide) (hd : (x == ("__debug__" : Str)) = false := by decide) : wpAny (model X.prog X.w) X.A (eval (.Name x pos) X.env) Q E s := by
  obtain ⟨mb, h1, h2⟩ := I.mod.blt
  exact Calls.Name_function_global I.ok.kind hg (Calls.loadGlobal_builtin (by rw [I.ok.glob]; exact I.mod.glob.keeps I.bk) hm (by rw [I.ok.blt]; exact h1.keeps I.bk) ((h2 x hn).trans hv) h) hd
/-- a module's constant, a class, a function, as a value -/
theorem pe_glob {x : Str} {v : V} {u : Value} {pos : Pos} (hg : Gl X x) (hm : X.mg x = some u) (r : RelV v u) (hd : (x == ("__debug__" : Str)) = false := by decide) : PE X (.Name x pos) (tC v) :=
  fun _ _ _ H _ I h => ld_glob I hg hm ⟨v, H, I, r, h⟩ hd
theorem pe_bltn {x : Str} {v : V} {u : Value} {pos : Pos} (hg : Gl X x) (hm : X.mg x = none) (hv : bootBuiltins x = some u) (r : RelV v u) (hn : x ≠ "__name__" := by decide) (hd : (x == ("__debug__" : Str)) = false := by decide) : PE X (.Name x pos) (tC v) :=
  fun _ _ _ H _ I h => ld_blt I hg hm hv ⟨v, H, I, r, h⟩ hn hd

/-! ### arithmetic -/
/-- two ints -/
def t2I (ta tb : TE) (k : Int → Int → Hp → Prop) : St → Hp → Prop := fun σ H => ta σ H fun x H1 => tb σ H1 fun y H2 => ∃ i j, x = .int i ∧ y = .int j ∧ k i j H2
def tAdd (ta tb : TE) : TE := fun σ H Q => t2I ta tb (fun i j H2 => Q (.int (i + j)) H2) σ H
def tSub (ta tb : TE) : TE := fun σ H Q => t2I ta tb (fun i j H2 => Q (.int (i - j)) H2) σ H
/-- the left factor below 2^64 -/
def tMul (ta tb : TE) : TE := fun σ H Q => t2I ta tb (fun i j H2 => (-(2 ^ 64) < i ∧ i < 2 ^ 64) ∧ Q (.int (i * j)) H2) σ H
variable {a b : Expr} {ta tb : TE} {pos : Pos}

/-! ### comparisons -/
def PC (X : Cx) (op : CmpOp) (a b : Expr) (t : TE) : Prop :=
  ∀ (pins : List (Addr × Obj)) (s : Shared) (σ : St) (H : Hp) (Q : VK), Inv X pins σ H s → t σ H Q →
    wpAny (model X.prog X.w) X.A (eval a X.env) (fun v s₁ => wpAny (model X.prog X.w) X.A (eval b X.env) (fun u s₂ => wpAny (model X.prog X.w) X.A (compareOp op v u) (EP X pins σ Q) X.xe s₂) X.xe s₁) X.xe s
theorem nobehind (b : Expr) {op : CmpOp} (h : op ≠ .In) (h2 : op ≠ .NotIn) : behindInMarks op b = false := by
  have e1 : (op == CmpOp.In) = false := by cases op <;> first | rfl | exact absurd rfl h
  have e2 : (op == CmpOp.NotIn) = false := by cases op <;> first | rfl | exact absurd rfl h2
  cases b <;> simp [behindInMarks, e1, e2]
def tCmp (p : Int → Int → Bool) (ta tb : TE) : TE := fun σ H Q => t2I ta tb (fun i j H2 => Q (.bl (p i j)) H2) σ H
abbrev tLt : TE → TE → TE := tCmp fun i j => decide (i < j)
abbrev tLe : TE → TE → TE := tCmp fun i j => decide (i ≤ j)
abbrev tGt : TE → TE → TE := tCmp fun i j => decide (j < i)
abbrev tGe : TE → TE → TE := tCmp fun i j => decide (j ≤ i)
abbrev tEqI : TE → TE → TE := tCmp fun i j => decide (i = j)
abbrev tNeI : TE → TE → TE := tCmp fun i j => !decide (i = j)
/-- is None -/
def tIsN (ta : TE) : TE := fun σ H Q => ta σ H fun x H1 => Q (.bl (decide (x = .non))) H1
def tNotN (ta : TE) : TE := fun σ H Q => ta σ H fun x H1 => Q (.bl (!decide (x = .non))) H1
/-- a comparison as a value, as a test -/
def tB (t : TE) : TT := fun σ H Q => t σ H fun x H1 => ∃ c, x = .bl c ∧ Q c H1
theorem pt_cmp {op : CmpOp} {t : TE} (h : PC X op a b t) (h1 : behindInMarks op b = false := by first | exact nobehind _ (by decide) (by decide) | rfl) : PT X (.Compare a [op] [b] pos) (tB t) := by
  intro pins s σ H Q I hw
  refine wpAny_isTrue_Compare1 (thn (h pins s σ H _ I hw) fun v s1 h1 => thn h1 fun u s2 h2 => thn h2 fun c s3 ⟨x, H1, I1, r1, q1⟩ => ?_) h1
  obtain ⟨d, rfl, q⟩ := q1
  cases r1
  exact wpAny_truthy_bool ⟨H1, I1, q⟩
/-- an expression whose value is a bool, as a test -/
theorem pt_val {e : Expr} {t : TE} (h : PE X e t) (he : ∀ whole, isTrue e X.env whole = (do let v ← whole; standAt e.pos; holding [v] (truthy v)) := by intro _; rfl) : PT X e (tB t) := by
  intro pins s σ H Q I hw
  refine isTrue_plain (thn (h pins s σ H _ I hw) fun v s1 ⟨x, H1, I1, r1, q1⟩ => ?_) (he _)
  obtain ⟨d, rfl, q⟩ := q1
  cases r1
  exact wpAny_truthy_bool ⟨H1, I1, q⟩

/-! ### and, or, not -/
variable {tA tB' : TT} {rest : List Expr}
def tAnd (t u : TT) : TT := fun σ H Q => t σ H fun c H1 => if c = true then u σ H1 Q else Q false H1
def tOr (t u : TT) : TT := fun σ H Q => t σ H fun c H1 => if c = true then Q true H1 else u σ H1 Q
def tNot (t : TT) : TT := fun σ H Q => t σ H fun c H1 => Q (!c) H1
theorem pw_and1 (ha : PT X a tA) : PW X (.BoolOp .And [a] pos) tA := by
  intro wh pins s σ H Q I h
  refine isTrue_and (thn (ha pins s σ H Q I h) fun c s1 e => ?_)
  cases c with
  | true => exact isTrue_and_nil e
  | false => exact e
theorem pw_or1 (ha : PT X a tA) : PW X (.BoolOp .Or [a] pos) tA := by
  intro wh pins s σ H Q I h
  refine isTrue_or (thn (ha pins s σ H Q I h) fun c s1 e => ?_)
  cases c with
  | false => exact isTrue_or_nil e
  | true => exact e
theorem pw_and (ha : PT X a tA) (hb : PW X (.BoolOp .And (b :: rest) pos) tB') : PW X (.BoolOp .And (a :: b :: rest) pos) (tAnd tA tB') := by
  intro wh pins s σ H Q I h
  refine isTrue_and (thn (ha pins s σ H _ I h) fun c s1 ⟨H1, I1, q1⟩ => ?_)
  cases c with
  | true => exact hb wh pins s1 σ H1 Q I1 q1
  | false => exact ⟨H1, I1, q1⟩
theorem pw_or (ha : PT X a tA) (hb : PW X (.BoolOp .Or (b :: rest) pos) tB') : PW X (.BoolOp .Or (a :: b :: rest) pos) (tOr tA tB') := by
  intro wh pins s σ H Q I h
  refine isTrue_or (thn (ha pins s σ H _ I h) fun c s1 ⟨H1, I1, q1⟩ => ?_)
  cases c with
  | true => exact ⟨H1, I1, q1⟩
  | false => exact hb wh pins s1 σ H1 Q I1 q1
theorem pt_not (ha : PT X a tA) : PT X (.UnaryOp .Not a pos) (tNot tA) := by
  intro pins s σ H Q I h
  exact isTrue_not (ha pins s σ H (fun c H1 => Q (!c) H1) I h)
/-- .. as values (bools) -/
def tAndV (ta tb : TE) : TE := fun σ H Q => ta σ H fun x H1 => ∃ c, x = .bl c ∧ if c = true then tb σ H1 Q else Q (.bl false) H1
def tOrV (ta tb : TE) : TE := fun σ H Q => ta σ H fun x H1 => ∃ c, x = .bl c ∧ if c = true then Q (.bl true) H1 else tb σ H1 Q
def tNotV (ta : TE) : TE := fun σ H Q => ta σ H fun x H1 => ∃ c, x = .bl c ∧ Q (.bl (!c)) H1
theorem pe_one {op} {t : TE} (h : PE X a t) : PE X (.BoolOp op [a] pos) t := fun pins s σ H Q I hw => BoolOp_one (h pins s σ H Q I hw)
theorem pe_and (ha : PE X a ta) (hb : PE X (.BoolOp .And (b :: rest) pos) tb) : PE X (.BoolOp .And (a :: b :: rest) pos) (tAndV ta tb) := by
  intro pins s σ H Q I h
  refine BoolOp_and (thn (ha pins s σ H _ I h) fun v s1 ⟨x, H1, I1, r1, q1⟩ => ?_)
  obtain ⟨c, rfl, q1⟩ := q1
  cases r1
  refine wpAny_truthy_bool ?_
  cases c with
  | true => exact hb pins s1 σ H1 Q I1 q1
  | false => exact ⟨.bl false, H1, I1, rfl, q1⟩
theorem pe_or (ha : PE X a ta) (hb : PE X (.BoolOp .Or (b :: rest) pos) tb) : PE X (.BoolOp .Or (a :: b :: rest) pos) (tOrV ta tb) := by
  intro pins s σ H Q I h
  refine BoolOp_or (thn (ha pins s σ H _ I h) fun v s1 ⟨x, H1, I1, r1, q1⟩ => ?_)
  obtain ⟨c, rfl, q1⟩ := q1
  cases r1
  refine wpAny_truthy_bool ?_
  cases c with
  | false => exact hb pins s1 σ H1 Q I1 q1
  | true => exact ⟨.bl true, H1, I1, rfl, q1⟩
theorem pe_not (ha : PE X a ta) : PE X (.UnaryOp .Not a pos) (tNotV ta) := by
  intro pins s σ H Q I h
  refine UnaryOp_ (thn (ha pins s σ H _ I h) fun v s1 ⟨x, H1, I1, r1, q1⟩ => ?_)
  obtain ⟨c, rfl, q1⟩ := q1
  cases r1
  exact not_of (wpAny_truthy_bool ⟨.bl (!c), H1, I1, rfl, q1⟩)
/-- a if t else b -/
def tIf (t : TT) (ta tb : TE) : TE := fun σ H Q => t σ H fun c H1 => if c = true then ta σ H1 Q else tb σ H1 Q
theorem pe_ifExp {c : Expr} (hc : PT X c tA) (ha : PE X a ta) (hb : PE X b tb) : PE X (.IfExp c a b pos) (tIf tA ta tb) := by
  intro pins s σ H Q I h
  refine wpAny_IfExp (thn (hc pins s σ H _ I h) fun d s1 ⟨H1, I1, q1⟩ => ?_)
  cases d with
  | true => exact ha pins s1 σ H1 Q I1 q1
  | false => exact hb pins s1 σ H1 Q I1 q1
end
end L2

namespace L2
open PySem PySem.Spec PyProof.Rows

/-! ### a list, a tuple that is read: tracked, frozen, or an object of the module -/
def SqL (K : PySem.W.Frag) (H : Hp) (a : Addr) (xs : List V) : Prop :=
  Rd H a (.lst xs) ∨
    ∃ (o : Obj) (its : Array Value) (n : Nat), K.lookup a = some o ∧ o.cls = .type "list" ∧ o.dict = none ∧ o.data = .seq its n ∧ its.size ≤ sizeLine ∧ Vals xs its.toList
def SqT (K : PySem.W.Frag) (H : Hp) (a : Addr) (xs : List V) : Prop :=
  Rd H a (.tup xs) ∨
    ∃ (o : Obj) (its : Array Value) (n : Nat), K.lookup a = some o ∧ o.cls = .type "tuple" ∧ o.data = .seq its n ∧ its.size ≤ sizeLine ∧ Vals xs its.toList
def absV : Value → Option V
  | .none => some .non
  | .bool b => some (.bl b)
  | .int i _ => some (.int i)
  | .str x _ => some (.str x)
  | .bytes b _ => some (.byt b)
  | .float b _ => some (.flt b)
  | .ref a => some (.ref a)
  | .type n => some (.ty n)
  | _ => none
theorem RelV.abs {x : V} {u : Value} (r : RelV x u) : absV u = some x := by
  cases x with
  | non => cases r; rfl
  | bl _ => cases r; rfl
  | int _ => obtain ⟨t, rfl⟩ := r; rfl
  | str _ => obtain ⟨t, rfl⟩ := r; rfl
  | byt _ => obtain ⟨t, rfl⟩ := r; rfl
  | flt _ => obtain ⟨t, rfl⟩ := r; rfl
  | ref _ => cases r; rfl
  | ty _ => cases r; rfl
theorem RelV.inj {x y : V} {u : Value} (r : RelV x u) (q : RelV y u) : x = y := Option.some.inj (r.abs.symm.trans q.abs)
theorem Vals.inj : ∀ {xs ys : List V} {us : List Value}, Vals xs us → Vals ys us → xs = ys
  | _, _, _, .nil, .nil => rfl
  | _, _, _, .cons r t, .cons r' t' => by rw [r.inj r', Vals.inj t t']
section
variable {X : Cx} {pins : List (Addr × Obj)} {σ : St} {H : Hp} {s : Shared} {a : Addr} {xs ys : List V}
theorem SqL.of {K : PySem.W.Frag} (h : H a = some (.lst xs)) : SqL K H a xs := .inl (.inl h)
theorem SqT.of {K : PySem.W.Frag} (h : H a = some (.tup xs)) : SqT K H a xs := .inl (.inl h)
theorem Inv.list (I : Inv X pins σ H s) (h : SqL X.K H a xs) : ∃ its : List Value, Vals xs its ∧ PlainL s.heap a its.toArray ∧ xs.length ≤ sizeLine := by
  rcases h with h | ⟨o, its, n, hk, hc, hd, hs, hz, r⟩
  · obtain ⟨z, its, n, r, e⟩ := h.ok I.hok
    exact ⟨its, r, ⟨_, n, e, rfl, rfl, rfl⟩, z⟩
  · refine ⟨its.toList, r, ⟨o, n, I.kIn a o hk, hc, hd, by simpa using hs⟩, ?_⟩
    have e := r.length
    simp only [Array.length_toList] at e
    omega
theorem Inv.tuple (I : Inv X pins σ H s) (h : SqT X.K H a xs) : ∃ its : List Value, Vals xs its ∧ IsTup s.heap a its.toArray ∧ xs.length ≤ sizeLine := by
  rcases h with h | ⟨o, its, n, hk, hc, hs, hz, r⟩
  · obtain ⟨z, its, r, p⟩ := h.ok I.hok
    exact ⟨its, r, p, z⟩
  · refine ⟨its.toList, r, ⟨o, I.kIn a o hk, hc, n, by simpa using hs⟩, ?_⟩
    have e := r.length
    simp only [Array.length_toList] at e
    omega
theorem Inv.list_inj (I : Inv X pins σ H s) (h : SqL X.K H a xs) (h' : SqL X.K H a ys) : xs = ys := by
  obtain ⟨its, r, ⟨o, n, e, _, _, d⟩, _⟩ := I.list h
  obtain ⟨its', r', ⟨o', n', e', _, _, d'⟩, _⟩ := I.list h'
  rw [e] at e'; cases e'
  rw [d] at d'
  injection d' with d1 _
  have : its = its' := by simpa using congrArg Array.toList d1
  subst this
  exact r.inj r'
end

/-! ### another wish about exceptions -/
abbrev Cx.wish (X : Cx) (E : Value → Shared → Prop) : Cx := { X with xe := E }
/-- no exception leaves -/
abbrev Cx.nox (X : Cx) : Cx := X.wish fun _ _ => False
theorem Cx.Ok.wish {X : Cx} (ok : X.Ok) (E : Value → Shared → Prop) : (X.wish E).Ok :=
  ⟨ok.mod, ok.kind, ok.glob, ok.blt, ok.above, ok.inj, ok.has, ok.cab, ok.hd, ok.frames, ok.stk, ok.exf, ok.bs, ok.bsz, ok.noex, ok.exfs, ok.funs, ok.frf⟩
theorem Cx.Ok.unwish {X : Cx} {E : Value → Shared → Prop} (ok : (X.wish E).Ok) : X.Ok :=
  ⟨ok.mod, ok.kind, ok.glob, ok.blt, ok.above, ok.inj, ok.has, ok.cab, ok.hd, ok.frames, ok.stk, ok.exf, ok.bs, ok.bsz, ok.noex, ok.exfs, ok.funs, ok.frf⟩
section
variable {X : Cx} {pins : List (Addr × Obj)} {σ : St} {H : Hp} {s : Shared} {E : Value → Shared → Prop}
theorem Inv.wish (I : Inv X pins σ H s) (E : Value → Shared → Prop) : Inv (X.wish E) pins σ H s := ⟨I.ok.wish E, I.os, I.bare, I.base, I.loc, I.cell, I.free, I.freeC, I.pin, I.hok, I.len⟩
theorem Inv.unwish (I : Inv (X.wish E) pins σ H s) : Inv X pins σ H s := ⟨I.ok.unwish, I.os, I.bare, I.base, I.loc, I.cell, I.free, I.freeC, I.pin, I.hok, I.len⟩
theorem SP.unwish {D : Ends} {f : Flow} {s' : Shared} (h : SP (X.wish E) pins D f s') : SP X pins D f s' := by
  cases f with
  | next => obtain ⟨σ', H', I, q⟩ := h; exact ⟨σ', H', I.unwish, q⟩
  | brk => obtain ⟨σ', H', I, q⟩ := h; exact ⟨σ', H', I.unwish, q⟩
  | cont => obtain ⟨σ', H', I, q⟩ := h; exact ⟨σ', H', I.unwish, q⟩
  | ret u => obtain ⟨v, σ', H', I, r, q⟩ := h; exact ⟨v, σ', H', I.unwish, r, q⟩
theorem PE.nox {e : Expr} {t : TE} (h : PE X.nox e t) : PE X e t := fun pins s σ H Q I hw =>
  wpAny_mono (h pins s σ H Q (I.wish _) hw) (fun _ _ ⟨v, H', I', r, q⟩ => ⟨v, H', I'.unwish, r, q⟩) fun _ _ z => False.elim z
theorem PT.nox {e : Expr} {t : TT} (h : PT X.nox e t) : PT X e t := fun pins s σ H Q I hw =>
  wpAny_mono (h pins s σ H Q (I.wish _) hw) (fun _ _ ⟨H', I', q⟩ => ⟨H', I'.unwish, q⟩) fun _ _ z => False.elim z
theorem PSs.nox {st : List Stmt} {t : TS} (h : PSs X.nox st t) : PSs X st t := fun pins s σ H D I hw =>
  wpAny_mono (h pins s σ H D (I.wish _) hw) (fun _ _ q => q.unwish) fun _ _ z => False.elim z
end

/-! ### blocks and small statements -/
section
variable {X : Cx} {st : Stmt} {rest : List Stmt} {t u : TS} {e : Expr} {te : TE} {pos : Pos}
def tNext : TS := fun D σ H => D.nx σ H
def tSeq (t u : TS) : TS := fun D σ H => t { D with nx := u D } σ H
theorem pss_nil : PSs X [] tNext := fun _ _ σ H _ I h => wpAny_execs_nil ⟨σ, H, I, h⟩
theorem pss_cons (h1 : PS X st t) (h2 : PSs X rest u) : PSs X (st :: rest) (tSeq t u) := by
  intro pins s σ H D I h
  refine wpAny_execs_cons (thn (h1 pins s σ H { D with nx := u D } I h) fun f s1 q => ?_)
  cases f with
  | next =>
    obtain ⟨σ', H', I', q⟩ := q
    exact h2 pins s1 σ' H' D I' q
  | ret v => exact q
  | brk => exact q
  | cont => exact q
theorem pss_one (h1 : PS X st t) : PSs X [st] t := by
  intro pins s σ H D I h
  refine wpAny_execs_cons (thn (h1 pins s σ H D I h) fun f s1 q => ?_)
  cases f with
  | next => exact wpAny_execs_nil q
  | ret v => exact q
  | brk => exact q
  | cont => exact q
def tBreak : TS := fun D σ H => D.bk σ H
def tCont : TS := fun D σ H => D.ct σ H
/-- in a def's body nothing is shown -/
theorem Inv.quiet {pins : List (Addr × Obj)} {σ : St} {H : Hp} {s : Shared} (I : Inv X pins σ H s) : interactive X.env = false := by simp [interactive, I.ok.kind]
/-- an expression whose value is dropped -/
def tDrop (te : TE) : TS := fun D σ H => te σ H fun _ H1 => D.nx σ H1
theorem ps_expr (he : PE X e te) (hs : swapsWith e none pos.line X.env = pure false := by rfl) : PS X (.Expr e pos) (tDrop te) := by
  intro pins s σ H D I h
  exact wpAny_Expr_any (thn (he pins s σ H _ I h) fun v s1 ⟨x, H1, I1, r1, q1⟩ => ⟨σ, H1, I1, q1⟩) I.quiet hs
def tRet (te : TE) : TS := fun D σ H => te σ H D.rt
theorem ps_ret (he : PE X e te) : PS X (.Return (some e) pos) (tRet te) := by
  intro pins s σ H D I h
  exact wpAny_Return_some (thn (he pins s σ H _ I h) fun v s1 ⟨x, H1, I1, r1, q1⟩ => ⟨x, σ, H1, I1, r1, q1⟩)
def tRetN : TS := fun D _ H => D.rt .non H
def tIfS (c : TT) (t u : TS) : TS := fun D σ H => c σ H fun b H1 => if b = true then t D σ H1 else u D σ H1
theorem ps_if {c : Expr} {a b : List Stmt} {tc : TT} (hc : PT X c tc) (ha : PSs X a t) (hb : PSs X b u) : PS X (.If c a b pos) (tIfS tc t u) := by
  intro pins s σ H D I h
  refine wpAny_If (thn (hc pins s σ H _ I h) fun d s1 ⟨H1, I1, q1⟩ => ?_)
  cases d with
  | true => exact ha pins s1 σ H1 D I1 q1
  | false => exact hb pins s1 σ H1 D I1 q1
/-- code that the proof never comes to -/
def tNever : TS := fun _ _ _ => False
end

/-! ### targets -/
abbrev TG := V → St → Hp → (St → Hp → Prop) → Prop
abbrev TGs := List V → St → Hp → (St → Hp → Prop) → Prop
def PG (X : Cx) (target : Expr) (t : TG) : Prop :=
  ∀ (pins : List (Addr × Obj)) (s : Shared) (σ : St) (H : Hp) (v : V) (u : Value) (Q : St → Hp → Prop), Inv X pins σ H s → RelV v u → t v σ H Q →
    wpAny (model X.prog X.w) X.A (assign target X.env u) (fun _ s' => ∃ σ' H', Inv X pins σ' H' s' ∧ Q σ' H') X.xe s
/-- several targets, one after another -/
def PGs (X : Cx) (ts : List Expr) (t : TGs) : Prop :=
  ∀ (pins : List (Addr × Obj)) (s : Shared) (σ : St) (H : Hp) (vs : List V) (us : List Value) (Q : St → Hp → Prop), Inv X pins σ H s → Vals vs us → t vs σ H Q →
    wpAny (model X.prog X.w) X.A (assignInOrder ((assignEach ts X.env).map (·.2)) us) (fun _ s' => ∃ σ' H', Inv X pins σ' H' s' ∧ Q σ' H') X.xe s
/-- o[i] = v, by values -/
abbrev TSet := V → V → V → Hp → (Hp → Prop) → Prop
def PSet (X : Cx) (t : TSet) : Prop :=
  ∀ (pins : List (Addr × Obj)) (s : Shared) (σ : St) (H : Hp) (o i v : V) (ov iv u : Value) (Q : Hp → Prop), Inv X pins σ H s → RelV o ov → RelV i iv → RelV v u → t o i v H Q →
    wpAny (model X.prog X.w) X.A (setItem ov iv u) (fun _ s' => ∃ H', Inv X pins σ H' s' ∧ Q H') X.xe s
/-- a op= b, by values -/
abbrev TIp := V → V → Hp → VK → Prop
def PIp (X : Cx) (op : Operator) (t : TIp) : Prop :=
  ∀ (pins : List (Addr × Obj)) (s : Shared) (σ : St) (H : Hp) (x y : V) (v u : Value) (Q : VK), Inv X pins σ H s → RelV x v → RelV y u → t x y H Q →
    wpAny (model X.prog X.w) X.A (inplaceOp op v u) (EP X pins σ Q) X.xe s
section
variable {X : Cx} {pos : Pos}
def gName (i : Nat) : TG := fun v σ H Q => Q (σ.set i (some v)) H
theorem pg_name {i : Nat} {x : Str} (hN : X.N.Nodup) (hi : X.N[i]? = some x) (hx : Loc X.env.scope x) (hf : X.fn x = true ∨ X.env.scope.names.lookup x = some .local := by first | exact .inl rfl | exact .inr rfl | assumption) : PG X (.Name x pos) (gName i) := by
  intro pins s σ H v u Q I r h
  exact wpAny_assign_Name (store_ok I hN hi hx r (fun s' I' => ⟨_, H, I', h⟩) hf)
def gNil : TGs := fun vs σ H Q => vs = [] ∧ Q σ H
def gCons (t : TG) (u : TGs) : TGs := fun vs σ H Q => ∃ v r, vs = v :: r ∧ t v σ H fun σ' H' => u r σ' H' Q
theorem pgs_nil : PGs X [] gNil := by
  intro pins s σ H vs us Q I r h
  obtain ⟨e, h⟩ := h
  subst e
  cases r
  exact assignInOrder_nil ⟨σ, H, I, h⟩
theorem pgs_cons {e : Expr} {es : List Expr} {t : TG} {u : TGs} (h1 : PG X e t) (h2 : PGs X es u)
    (hs : (assignEach (e :: es) X.env).map (·.2) = assign e X.env :: (assignEach es X.env).map (·.2) := by rfl) : PGs X (e :: es) (gCons t u) := by
  intro pins s σ H vs us Q I r h
  obtain ⟨v, vr, e1, h⟩ := h
  subst e1
  cases r with
  | cons r rr =>
    rw [hs]
    refine assignInOrder_cons (thn (h1 pins s σ H _ _ _ I r h) fun _ s1 ⟨σ1, H1, I1, q1⟩ => ?_)
    exact h2 pins s1 σ1 H1 _ _ Q I1 rr q1
/-- (a, b, ..) = a tuple of that length -/
def gTup (K : PySem.W.Frag) (n : Nat) (t : TGs) : TG := fun v σ H Q => ∃ a xs, v = .ref a ∧ SqT K H a xs ∧ xs.length = n ∧ t xs σ H Q
theorem pg_tup {es : List Expr} {k : Nat} {t : TGs} {n : Nat} (hc : X.calm = true) (h : PGs X es t)
    (hn : (assignEach es X.env).length = n := by rfl) (hst : (assignEach es X.env).findIdx? (·.1) = none := by rfl) : PG X (.Tuple es k pos) (gTup X.K n t) := by
  intro pins s σ H v u Q I r hw
  obtain ⟨a, xs, e1, hq, hl, hw⟩ := hw
  subst e1
  cases r
  obtain ⟨its, rv, ht, hz⟩ := I.tuple hq
  refine assign_Tuple_tuple (I.ok.hd hc) ht (by simp [hn, ← hl, rv.length]) hst fun h' hx => ?_
  have I1 : Inv X pins σ H { s with heap := h' } := I.kept (t' := s.toks) fun b o e => hx b o (Nat.ne_of_lt (Heap.lt_size e)) e
  exact h pins _ σ H xs _ Q I1 (by simpa using rv) hw
/-- o[i] = .. -/
def gSub (to ti : TE) (t : TSet) : TG := fun v σ H Q => to σ H fun o H1 => ti σ H1 fun i H2 => t o i v H2 fun H3 => Q σ H3
theorem pg_sub {o i : Expr} {to ti : TE} {t : TSet} (ho : PE X o to) (hi : PE X i ti) (hs : PSet X t)
    (ha : ∀ v, assign (.Subscript o i pos) X.env v = (do
      let ov ← holding [v] (eval o X.env)
      let iv ← holding [v, ov] (eval i X.env)
      standAt pos
      holding [v, ov, iv] (setItem ov iv v)
      release [v, ov, iv] []) := by intro _; rfl) : PG X (.Subscript o i pos) (gSub to ti t) := by
  intro pins s σ H v u Q I r h
  rw [ha]
  refine wpAny_bind (wpAny_holding (thn (ho pins s σ H _ I h) fun ov s1 ⟨x, H1, I1, r1, q1⟩ => ?_))
  refine wpAny_bind (wpAny_holding (thn (hi pins s1 σ H1 _ I1 q1) fun iv s2 ⟨y, H2, I2, r2, q2⟩ => ?_))
  refine wpAny_bind (wpAny_standAt (wpAny_bind (wpAny_holding (thn (hs pins s2 σ H2 x y v ov iv u _ I2 r1 r2 r q2) fun _ s3 ⟨H3, I3, q3⟩ => ?_))))
  exact wpAny_release ⟨σ, H3, I3, q3⟩
/-- target = value -/
def tAsg (te : TE) (g : TG) : TS := fun D σ H => te σ H fun x H1 => g x σ H1 D.nx
theorem ps_asg {tg e : Expr} {te : TE} {g : TG} (he : PE X e te) (hg : PG X tg g) (hs : swapsWithSole [tg] e pos.line X.env = pure false := by rfl) (hw : swappedStores [tg] e X.env = pure none := by rfl)
    (h1 : (assignEach [tg] X.env).map (·.2) = [assign tg X.env] := by rfl) : PS X (.Assign [tg] e pos) (tAsg te g) := by
  intro pins s σ H D I h
  refine wpAny_Assign_stores (thn (he pins s σ H _ I h) fun v s1 ⟨x, H1, I1, r1, q1⟩ => ?_) hs hw
  rw [h1]
  exact thn (hg pins s1 σ H1 x v _ I1 r1 q1) fun _ s2 q => q
/-- name = value -/
theorem ps_set {i : Nat} {x : Str} {e : Expr} {te : TE} {pos' : Pos} (hN : X.N.Nodup) (hi : X.N[i]? = some x) (hx : Loc X.env.scope x) (he : PE X e te) (hs : swapsWith e (some (.Name x pos')) pos.line X.env = pure false := by rfl) (hf : X.fn x = true ∨ X.env.scope.names.lookup x = some .local := by first | exact .inl rfl | exact .inr rfl | assumption) :
    PS X (.Assign [.Name x pos'] e pos) (tAsg te (gName i)) := by
  intro pins s σ H D I h
  refine wpAny_Assign_Name (thn (he pins s σ H _ I h) fun v s1 ⟨y, H1, I1, r1, q1⟩ => ?_) hs
  exact store_ok I1 hN hi hx r1 (fun s2 I2 => ⟨_, H1, I2, q1⟩) hf
/-- a, b = x, y with plain local names: stored from the right; the pair itself is not tracked (the opening rows as in PyProof/Rows/TupAssign.lean:23) -/
def tPar (i j : Nat) (ta : TA) : TS := fun D σ H => ta σ H fun vs H1 => ∃ v w, vs = [v, w] ∧ D.nx ((σ.set i (some v)).set j (some w)) H1
/-- name op= e -/
def tAug (i : Nat) (te : TE) (ti : TIp) : TS := fun D σ H => ∃ x, σ[i]? = some (some x) ∧ te σ H fun y H1 => ti x y H1 fun z H2 => D.nx (σ.set i (some z)) H2
theorem ps_aug {i : Nat} {x : Str} {e : Expr} {te : TE} {op : Operator} {ti : TIp} {pos' : Pos} (hN : X.N.Nodup) (hi : X.N[i]? = some x) (hx : Loc X.env.scope x) (he : PE X e te) (ho : PIp X op ti) (hf : X.fn x = true ∨ X.env.scope.names.lookup x = some .local := by first | exact .inl rfl | exact .inr rfl | assumption) :
    PS X (.AugAssign (.Name x pos') op e pos) (tAug i te ti) := by
  intro pins s σ H D I h
  obtain ⟨v, e1, h⟩ := h
  obtain ⟨m, hn, hl⟩ := I.loc
  have vis : Vis X.env.scope x := by rcases hx with k | k; exact .inl k; exact .inr (.inl k)
  obtain ⟨u, r, l⟩ := hl i x v hi e1 vis
  refine wpAny_AugAssign_Name ?_
  have go : wpAny (model X.prog X.w) X.A (eval e X.env) (fun w s₂ => wpAny (model X.prog X.w) X.A (inplaceOp op u w) (fun r s₃ => wpAny (model X.prog X.w) X.A (storeName X.env x r) (fun _ => SP X pins D .next) X.xe s₃) X.xe s₂) X.xe s := by
    refine thn (he pins s σ H _ I h) fun w s1 ⟨y, H1, I1, r1, q1⟩ => ?_
    refine thn (ho pins s1 σ H1 v y u w _ I1 r r1 q1) fun z s2 ⟨zv, H2, I2, r2, q2⟩ => ?_
    exact store_ok I2 hN hi hx r2 (fun s3 I3 => ⟨_, H2, I3, q2⟩) hf
  rcases l with ⟨hk, hm⟩ | ⟨hk, c, hc, hcell⟩
  · exact wpAny_loadName_local I.ok.kind hk hn hm go
  · rcases hk with hk | hk
    · exact wpAny_loadName_cell I.ok.kind hk hc hcell go
    · rcases hx with k | k
      · have : X.env.scope.names.lookup x = some .free := hk
        rw [k] at this; cases this
      · have : X.env.scope.names.lookup x = some .free := hk
        rw [k] at this; cases this
/-- o[i] op= e -/
def tAugS (to ti te : TE) (tget : V → V → Hp → VK → Prop) (tip : TIp) (tset : TSet) : TS := fun D σ H => to σ H fun o H1 => ti σ H1 fun i H2 => tget o i H2 fun x H3 => te σ H3 fun y H4 => tip x y H4 fun z H5 => tset o i z H5 fun H6 => D.nx σ H6
/-- o[i], by values -/
def PGet (X : Cx) (t : V → V → Hp → VK → Prop) : Prop :=
  ∀ (pins : List (Addr × Obj)) (s : Shared) (σ : St) (H : Hp) (o i : V) (ov iv : Value) (Q : VK), Inv X pins σ H s → RelV o ov → RelV i iv → t o i H Q →
    wpAny (model X.prog X.w) X.A (getItem ov iv) (EP X pins σ Q) X.xe s
/-- ints -/
def ipI (f : Int → Int → Int) : TIp := fun x y H Q => ∃ i j, x = .int i ∧ y = .int j ∧ Q (.int (f i j)) H
theorem ip_add : PIp X .Add (ipI fun i j => i + j) := by
  intro pins s σ H x y v u Q I r1 r2 h
  obtain ⟨i, j, e1, e2, q⟩ := h
  subst e1; subst e2
  obtain ⟨t, rfl⟩ := r1
  obtain ⟨t', rfl⟩ := r2
  exact iadd_int ⟨.int _, H, I.tok _, ⟨_, rfl⟩, q⟩
end

/-! ### while -/
section
variable {X : Cx} {pos : Pos}
/-- the invariant W with its measure -/
def tWhile (c : TT) (tb : TS) : TS := fun D σ H => ∃ W : Nat → St → Hp → Prop, (∃ m, W m σ H) ∧ ∀ m σ H, W m σ H →
  c σ H fun b H1 => if b = true then ∃ N : St → Hp → Prop, (∀ σ' H', N σ' H' → ∃ m', m' < m ∧ W m' σ' H') ∧ tb { D with nx := N, ct := N, bk := D.nx } σ H1 else D.nx σ H1
theorem ps_while {c : Expr} {body : List Stmt} {tc : TT} {tb : TS} (hp : PassesOwn (model X.prog X.w) X.A X.env X.xe) (hc : PT X c tc) (hb : PSs X body tb) : PS X (.While c body [] pos) (tWhile tc tb) := by
  intro pins s σ H D I h
  obtain ⟨W, ⟨m0, w0⟩, turn⟩ := h
  refine wpAny_While (codeAny_whileLoop (fun n s' => ∃ σ' H', Inv X pins σ' H' s' ∧ W n σ' H') ?_ m0 ⟨σ, H, I, w0⟩)
  rintro n s1 ⟨σ1, H1, I1, w1⟩
  refine wpAny_passesOwn hp (thn (hc pins s1 σ1 H1 _ I1 (turn n σ1 H1 w1)) fun b s2 ⟨H2, I2, q2⟩ => ?_)
  cases b with
  | true =>
    obtain ⟨N, hN, q2⟩ := q2
    rw [if_pos rfl]
    refine wpAny_passesOwn hp (thn (hb pins s2 σ1 H2 _ I2 q2) fun f s3 q3 => ?_)
    cases f with
    | next =>
      obtain ⟨σ3, H3, I3, n3⟩ := q3
      obtain ⟨m', hm, w3⟩ := hN σ3 H3 n3
      exact ⟨m', hm, σ3, H3, I3, w3⟩
    | cont =>
      obtain ⟨σ3, H3, I3, n3⟩ := q3
      obtain ⟨m', hm, w3⟩ := hN σ3 H3 n3
      exact ⟨m', hm, σ3, H3, I3, w3⟩
    | brk => exact q3
    | ret v => exact q3
  | false =>
    rw [if_neg Bool.false_ne_true]
    exact wpAny_execs_nil ⟨σ1, H2, I2, q2⟩
end

/-! ### what a loop or a comprehension walks -/
/-- at turn i: it yields x (the heap may grow), or it stops -/
structure It where
  go : Nat → Hp → Prop
  yld : Nat → Hp → V → Hp → Prop
  stop : Nat → Hp → Prop
/-- the iterator's own objects may turn: they are not the frame's, not pinned, younger than the entry (or a comprehension's own) -/
def FpOk (X : Cx) (pins : List (Addr × Obj)) (H : Hp) (b : Addr) : Prop :=
  H b = none ∧ b ≠ X.env.locals ∧ b ∉ X.fs ∧ (b ∈ X.ex ∨ X.s₀.heap.objs.size ≤ b) ∧ (∀ x c, X.env.cells.lookup x = some c → c ≠ b) ∧ ∀ p ∈ X.pn ++ pins, p.1 ≠ b
theorem Inv.fpOk {X : Cx} {pins : List (Addr × Obj)} {σ : St} {H H' : Hp} {s : Shared} {b : Addr} (I : Inv X pins σ H s) (hb : s.heap.objs.size ≤ b) (hn : H' b = none) : FpOk X pins H' b := by
  refine ⟨hn, Nat.ne_of_gt (Nat.lt_of_lt_of_le I.lt hb), I.nofs hb, .inr (Nat.le_trans I.sz hb), fun x c e z => ?_, fun p hp z => ?_⟩
  · obtain ⟨v, q⟩ := I.cell x c e
    exact absurd (Nat.lt_of_lt_of_le q.lt (by rw [z]; exact hb)) (Nat.lt_irrefl _)
  · exact absurd (Nat.lt_of_lt_of_le (Heap.lt_size (I.pin p hp).1) (by rw [z]; exact hb)) (Nat.lt_irrefl _)
structure Turn (P : Program) (w : World) (K : PySem.W.Frag) (tg : Expr) (J : It) (fp : List Addr) (it : Addr) (tn : Nat → Heap → Prop) : Prop where
  mem : it ∈ fp
  obj : ∀ i h, tn i h → ∀ b ∈ fp, ∃ o, h.get? b = some o ∧ ∀ v, o.data ≠ .cell v
  keep : ∀ i h h', tn i h → (∀ b ∈ fp, ∀ o, h.get? b = some o → h'.get? b = some o) → tn i h'
  item : ∀ (X : Cx), X.prog = P → X.w = w → X.K = K → X.calm = true → ∀ (i : Nat) (pins : List (Addr × Obj)) (s : Shared) (σ : St) (H : Hp) (E : Value → Shared → Prop), Inv X pins σ H s → (∀ b ∈ fp, FpOk X pins H b) → tn i s.heap → J.go i H →
    wpAny (model P w) X.A (pyNext (.ref it)) (fun r s1 => ∃ u, r = some u ∧
      wpAny (model P w) X.A (letOwnedTupleGo tg (.ref it) u) (fun _ s2 => ∃ x H', Inv X pins σ H' s2 ∧ RelV x u ∧ J.yld i H x H' ∧ tn (i + 1) s2.heap ∧ ∀ b ∈ fp, H' b = none) E s1) E s
  done : ∀ (X : Cx), X.prog = P → X.w = w → X.K = K → X.calm = true → ∀ (i : Nat) (pins : List (Addr × Obj)) (s : Shared) (σ : St) (H : Hp) (E : Value → Shared → Prop), Inv X pins σ H s → (∀ b ∈ fp, FpOk X pins H b) → tn i s.heap → J.stop i H →
    wpAny (model P w) X.A (pyNext (.ref it)) (fun r s1 => r = none ∧ Inv X pins σ H s1) E s
  self : ∀ (A : Around) (i : Nat) (s : Shared) (Q : Value → Shared → Prop) (E : Value → Shared → Prop), tn i s.heap → Q (.ref it) s → wpAny (model P w) A (pyIter (.ref it)) Q E s
abbrev TI := St → Hp → (It → Hp → Prop) → Prop
/-- an iterator has come -/
def PIE (X : Cx) (pins : List (Addr × Obj)) (σ : St) (tg : Expr) (R : It → Hp → Prop) (itv : Value) (s2 : Shared) : Prop :=
  ∃ (it : Addr) (fp : List Addr) (tn : Nat → Heap → Prop) (J : It) (H' : Hp), itv = .ref it ∧ Inv X pins σ H' s2 ∧ Turn X.prog X.w X.K tg J fp it tn ∧ tn 0 s2.heap ∧ (∀ b ∈ fp, FpOk X pins H' b) ∧ R J H'
def PI (X : Cx) (tg iter : Expr) (wi : TI) : Prop :=
  ∀ (pins : List (Addr × Obj)) (s : Shared) (σ : St) (H : Hp) (R : It → Hp → Prop), Inv X pins σ H s → wi σ H R →
    wpAny (model X.prog X.w) X.A (eval iter X.env) (fun v s1 => wpAny (model X.prog X.w) X.A (pyIter v) (PIE X pins σ tg R) X.xe s1) X.xe s

/-- the step ahead of the store is nothing for an iterator that keeps no tuple -/
theorem go_of {M : Model} {A : Around} {E : Value → Shared → Prop} {s : Shared} {tg : Expr} {it : Addr} {u : Value} {o : Obj} {n : String} {vs : Array Value} {Q : Unit → Shared → Prop} (ho : s.heap.get? it = some o) (hc : o.cls = .type n) (hd : o.data = .fields vs)
    (hn : ["enumerate", "zip", "dict_itemiterator", "dict_reverseitemiterator", "odict_iterator", "itertools.zip_longest", "itertools.pairwise"].contains n = false) (hQ : Q () s) : wpAny M A (letOwnedTupleGo tg (.ref it) u) Q E s := by
  unfold letOwnedTupleGo
  cases tg <;> first
    | exact wpAny_pure hQ
    | (cases u <;> first
        | exact wpAny_pure hQ
        | (refine wpAny_bind (wpAny_load ho ?_)
           rw [hc, hd]
           show wpAny M A (if (["enumerate", "zip", "dict_itemiterator", "dict_reverseitemiterator", "odict_iterator", "itertools.zip_longest", "itertools.pairwise"].contains n && vs[0]? == some (rawInt _)) = true then _ else _) Q E s
           rw [if_neg (by intro h; rw [hn, Bool.false_and] at h; cases h)]
           exact wpAny_pure hQ))

/-- the list at a, as it stands at each turn (a loop may append to it) -/
def Itl (K : PySem.W.Frag) (a : Addr) : It :=
  ⟨fun i H => ∃ xs x, SqL K H a xs ∧ xs[i]? = some x, fun i H x H' => H' = H ∧ ∀ xs, SqL K H a xs → xs[i]? = some x, fun i H => ∃ xs, SqL K H a xs ∧ xs.length ≤ i⟩
def Itt (K : PySem.W.Frag) (a : Addr) : It :=
  ⟨fun i H => ∃ xs x, SqT K H a xs ∧ xs[i]? = some x, fun i H x H' => H' = H ∧ ∀ xs, SqT K H a xs → xs[i]? = some x, fun i H => ∃ xs, SqT K H a xs ∧ xs.length ≤ i⟩
/-- lo, lo + 1, .. (n of them) -/
def Itr (lo : Int) (n : Nat) : It := ⟨fun i _ => i < n, fun i H x H' => H' = H ∧ x = .int (lo + i), fun i _ => n ≤ i⟩
theorem turn_list {P : Program} {w : World} {K : PySem.W.Frag} {tg : Expr} (a it : Addr) : Turn P w K tg (Itl K a) [it] it (fun i h => h.IsListIter it a i) where
  mem := by simp
  obj := fun i h st b hb => by
    have e : b = it := by simpa using hb
    subst e
    obtain ⟨o, e, c, d⟩ := st
    exact ⟨o, e, fun v z => by rw [d] at z; cases z⟩
  keep := fun i h h' st k => st.at fun o e => k it (by simp) o e
  item := by
    intro X hP hw hK hc i pins s σ H E I hf st hg
    subst hP hw hK
    obtain ⟨xs, x, hq, hx⟩ := hg
    obtain ⟨its, rv, p, hz⟩ := I.list hq
    obtain ⟨u, hu, ru⟩ := rv.get hx
    obtain ⟨f0, f1, f2, f3, f4, f5⟩ := hf it (by simp)
    refine wpAny_pyNext_list_item st p.isList (x := u) (by simpa using hu) fun h' st' sb => ?_
    have I1 : Inv X pins σ H { s with heap := h' } := I.turned (t' := s.toks) (fun b o hb e => (sb.2 b hb).trans e) f0 f1 f3 f4 f5
    obtain ⟨o, e, c, d⟩ := id st'
    exact ⟨u, rfl, go_of (s := { s with heap := h' }) e c d (by decide) ⟨x, H, I1, ru, ⟨rfl, fun ys hy => by rw [I.list_inj hy hq]; exact hx⟩, st', fun b hb => (hf b hb).1⟩⟩
  done := by
    intro X hP hw hK hc i pins s σ H E I hf st hg
    subst hP hw hK
    obtain ⟨xs, hq, hx⟩ := hg
    obtain ⟨its, rv, p, hz⟩ := I.list hq
    obtain ⟨f0, f1, f2, f3, f4, f5⟩ := hf it (by simp)
    have hl := rv.length
    exact wpAny_pyNext_list_end (I.ok.hd hc) st p.isList (by simp; omega) fun h' eb => ⟨rfl, I.turned (t' := s.toks) (fun b o hb e => eb b o hb e) f0 f1 f3 f4 f5⟩
  self := fun _ _ _ _ _ st h => wpAny_pyIter_listiter st h
theorem turn_range {P : Program} {w : World} {K : PySem.W.Frag} {tg : Expr} (it : Addr) (lo : Int) (n : Nat) : Turn P w K tg (Itr lo n) [it] it (fun i h => IsRangeIter h it (lo + (i : Nat) * 1) ((n : Int) - (i : Nat)) 1) where
  mem := by simp
  obj := fun i h st b hb => by
    have e : b = it := by simpa using hb
    subst e
    exact ⟨_, st, fun v z => by
      have z' : Data.fields _ = Data.cell v := z
      cases z'⟩
  keep := fun i h h' st k => k it (by simp) _ st
  item := by
    intro X hP hw hK hc i pins s σ H E I hf st hg
    subst hP hw hK
    obtain ⟨f0, f1, f2, f3, f4, f5⟩ := hf it (by simp)
    have W := Walks.range (prog := X.prog) (w := X.w) (I.ok.hd hc) it lo 1 n
    refine W.item i s _ _ hg st fun v h' tk hv st' kk => ?_
    obtain ⟨t, rfl⟩ := hv
    have I1 : Inv X pins σ H { s with heap := h', toks := tk } := I.turned (fun b o hb e => kk b o (by simpa using hb) e) f0 f1 f3 f4 f5
    refine ⟨_, rfl, go_of (s := { s with heap := h', toks := tk }) (n := "range_iterator") st' rfl rfl (by decide) ⟨.int (lo + i), H, I1, ⟨t, ?_⟩, ⟨rfl, rfl⟩, st', fun b hb => (hf b hb).1⟩⟩
    rw [Int.mul_one]
  done := by
    intro X hP hw hK hc i pins s σ H E I hf st hg
    subst hP hw hK
    obtain ⟨f0, f1, f2, f3, f4, f5⟩ := hf it (by simp)
    exact wpAny_pyNext_range_end (I.ok.hd hc) st (by have : n ≤ i := hg; omega) fun h' eb => ⟨rfl, I.turned (t' := s.toks) (fun b o hb e => eb b o hb e) f0 f1 f3 f4 f5⟩
  self := fun _ _ _ _ _ st h => wpAny_pyIter_rangeiter st h
end L2

namespace L2
open PySem PySem.Spec PyProof.Rows
section
variable {X : Cx} {tg : Expr}
def iList (K : PySem.W.Frag) (tl : TE) : TI := fun σ H R => tl σ H fun x H1 => ∃ a, x = .ref a ∧ (∃ xs, SqL K H1 a xs) ∧ R (Itl K a) H1
def iTup (K : PySem.W.Frag) (tl : TE) : TI := fun σ H R => tl σ H fun x H1 => ∃ a, x = .ref a ∧ (∃ xs, SqT K H1 a xs) ∧ R (Itt K a) H1
theorem pi_list {l : Expr} {tl : TE} (hl : PE X l tl) : PI X tg l (iList X.K tl) := by
  intro pins s σ H R I h
  refine thn (hl pins s σ H _ I h) fun v s1 ⟨x, H1, I1, r1, q1⟩ => ?_
  obtain ⟨a, e, ⟨xs, hq⟩, q⟩ := q1
  subst e
  cases r1
  obtain ⟨its, rv, p, hz⟩ := I1.list hq
  refine wpAny_pyIter_list p.isList ?_
  refine ⟨s1.heap.objs.size, [s1.heap.objs.size], _, _, H1, rfl, I1.kept (t' := s1.toks) fun b o e => Heap.get?_push_of_some _ e, turn_list a _, ⟨_, Heap.get?_push_size _ rfl, rfl, rfl⟩, fun b hb => ?_, q⟩
  have e : b = s1.heap.objs.size := by simpa using hb
  subst e
  exact I1.fpOk (Nat.le_refl _) (I1.hok.fresh (Nat.le_refl _))
/-- a range object just made, walked -/
theorem range_it {pins : List (Addr × Obj)} {σ : St} {H : Hp} {s : Shared} {R : It → Hp → Prop} {E : Value → Shared → Prop} {lo hi : Int} {t u v : Tok} {tk : Nat} (I : Inv X pins σ H s) (h1 : -(2 ^ 62) ≤ lo) (h2 : lo < 2 ^ 62) (h3 : -(2 ^ 62) ≤ hi) (h4 : hi < 2 ^ 62)
    (q : R (Itr lo (hi - lo).toNat) H) : wpAny (model X.prog X.w) X.A (pyIter (.ref s.heap.objs.size)) (PIE X pins σ tg R) E { s with heap := s.heap.push { cls := .type "range", data := .fields #[.int lo t, .int hi u, .int 1 v] }, toks := tk } := by
  refine wpAny_pyIter_range (IsRange.new ..) (small_one h1 h2 h3 h4) ?_
  have I1 : Inv X pins σ H { s with heap := s.heap.push { cls := .type "range", data := .fields #[.int lo t, .int hi u, .int 1 v] }, toks := tk } := I.kept fun b o e => Heap.get?_push_of_some _ e
  refine ⟨(s.heap.push { cls := .type "range", data := .fields #[.int lo t, .int hi u, .int 1 v] }).objs.size, [(s.heap.push { cls := .type "range", data := .fields #[.int lo t, .int hi u, .int 1 v] }).objs.size], _, _, H, rfl,
    I1.kept (t' := tk) fun b o e => Heap.get?_push_of_some _ e, turn_range _ lo (hi - lo).toNat, ?_, fun b hb => ?_, q⟩
  · have e1 : lo + ((0 : Nat) : Int) * 1 = lo := by simp
    have e2 : (((hi - lo).toNat : Nat) : Int) - ((0 : Nat) : Int) = Builtin.Range.rangeSize lo hi 1 := by rw [rangeSize_one]; split <;> omega
    show IsRangeIter _ _ (lo + ((0 : Nat) : Int) * 1) ((((hi - lo).toNat : Nat) : Int) - ((0 : Nat) : Int)) 1
    rw [e1, e2]
    exact Heap.get?_push_size _ rfl
  · have e : b = (s.heap.push { cls := .type "range", data := .fields #[.int lo t, .int hi u, .int 1 v] }).objs.size := by simpa using hb
    subst e
    exact I1.fpOk (Nat.le_refl _) (I1.hok.fresh (Nat.le_refl _))
def iRng1 (ta : TA) : TI := fun σ H R => ta σ H fun vs H1 => ∃ j : Int, vs = [.int j] ∧ -(2 ^ 62) ≤ j ∧ j < 2 ^ 62 ∧ R (Itr 0 j.toNat) H1
def iRng2 (ta : TA) : TI := fun σ H R => ta σ H fun vs H1 => ∃ i j : Int, vs = [.int i, .int j] ∧ (-(2 ^ 62) ≤ i ∧ i < 2 ^ 62 ∧ -(2 ^ 62) ≤ j ∧ j < 2 ^ 62) ∧ R (Itr i (j - i).toNat) H1
theorem pi_range1 {a : Expr} {ta : TA} {p pos : Pos} (hg : Gl X "range") (hm : X.mg "range" = none) (ha : PA X [a] ta) (hs : starEach [a] X.env = [(false, eval a X.env)] := by rfl) : PI X tg (.Call (.Name "range" p) [a] [] pos) (iRng1 ta) := by
  intro pins s σ H R I h
  refine Call_ (ld_blt I hg hm boot_range (PyProof.Rows.callWith_type1 (thn (ha pos pins s σ H _ I h) fun us s1 ⟨vs, H1, I1, r1, q1⟩ => ?_) hs rfl))
  obtain ⟨j, e, q1, q2, q⟩ := q1
  subst e
  cases r1 with
  | cons r rr =>
    cases rr
    obtain ⟨t, rfl⟩ := r
    exact call_range_1 (range_it I1 (by omega) (by omega) q1 q2 (by simpa using q))
theorem pi_range2 {a b : Expr} {ta : TA} {p pos : Pos} (hg : Gl X "range") (hm : X.mg "range" = none) (ha : PA X [a, b] ta) (hs : starEach [a, b] X.env = [(false, eval a X.env), (false, eval b X.env)] := by rfl) (hs2 : starEach [b] X.env = [(false, eval b X.env)] := by rfl) :
    PI X tg (.Call (.Name "range" p) [a, b] [] pos) (iRng2 ta) := by
  intro pins s σ H R I h
  refine Call_ (ld_blt I hg hm boot_range (PyProof.Rows.callWith_type1 (thn (ha pos pins s σ H _ I h) fun us s1 ⟨vs, H1, I1, r1, q1⟩ => ?_) (by rw [hs, hs2]) (by rw [hs2]; rfl)))
  obtain ⟨i, j, e, ⟨q1, q2, q3, q4⟩, q⟩ := q1
  subst e
  cases r1 with
  | cons r rr =>
    cases rr with
    | cons r' rr =>
      cases rr
      obtain ⟨t, rfl⟩ := r
      obtain ⟨t', rfl⟩ := r'
      exact call_range_2 (range_it I1 q1 q2 q3 q4 q)

/-! ### for -/
/-- W: the invariant by the turn and a measure; N: what the body is to reach -/
def tFor (wi : TI) (g : TG) (tb : TS) : TS := fun D σ H => wi σ H fun J H1 => ∃ W : Nat → Nat → St → Hp → Prop, (∃ m, W 0 m σ H1) ∧ ∀ i m σ H, W i m σ H →
  (J.stop i H ∧ D.nx σ H) ∨ (J.go i H ∧ ∃ N : St → Hp → Prop, (∀ σ' H', N σ' H' → ∃ m', m' < m ∧ W (i + 1) m' σ' H') ∧ ∀ x H', J.yld i H x H' → g x σ H' fun σ2 H2 => tb { D with nx := N, ct := N, bk := D.nx } σ2 H2)
/-- the records at fp as they stand -/
def pinsAt (fp : List Addr) (h : Heap) : List (Addr × Obj) := fp.filterMap fun b => (h.get? b).map fun o => (b, o)
theorem mem_pinsAt {fp : List Addr} {h : Heap} {b : Addr} {o : Obj} (hb : b ∈ fp) (e : h.get? b = some o) : (b, o) ∈ pinsAt fp h := List.mem_filterMap.mpr ⟨b, hb, by rw [e]; rfl⟩
theorem of_pinsAt {fp : List Addr} {h : Heap} {p : Addr × Obj} (hp : p ∈ pinsAt fp h) : p.1 ∈ fp ∧ h.get? p.1 = some p.2 := by
  obtain ⟨b, hb, e⟩ := List.mem_filterMap.mp hp
  cases q : h.get? b with
  | none => rw [q] at e; cases e
  | some o =>
    rw [q] at e
    have e' : (b, o) = p := Option.some.inj e
    subst e'
    exact ⟨hb, q⟩
theorem Inv.pinned {pins : List (Addr × Obj)} {σ : St} {H : Hp} {s : Shared} {fp : List Addr} (I : Inv X pins σ H s) (hf : ∀ b ∈ fp, FpOk X pins H b) (ho : ∀ b ∈ fp, ∃ o, s.heap.get? b = some o ∧ ∀ v, o.data ≠ .cell v) : Inv X (pins ++ pinsAt fp s.heap) σ H s :=
  I.pins_of fun p hp => (List.mem_append.mp hp).elim (fun z => I.pin p (List.mem_append_right _ z)) fun z => by
    obtain ⟨hb, e⟩ := of_pinsAt z
    obtain ⟨f0, f1, f2, _⟩ := hf p.1 hb
    obtain ⟨o, e', d⟩ := ho p.1 hb
    rw [e] at e'; cases e'
    exact ⟨e, f0, f1, f2, d⟩
theorem Inv.unpinned {pins pl : List (Addr × Obj)} {σ : St} {H : Hp} {s : Shared} (I : Inv X (pins ++ pl) σ H s) : Inv X pins σ H s := I.pins_of fun p hp => I.pin p (List.mem_append_right _ (List.mem_append_left _ hp))
theorem ps_for {iter : Expr} {body : List Stmt} {wi : TI} {g : TG} {tb : TS} {pos : Pos} (hp : PassesOwn (model X.prog X.w) X.A X.env X.xe) (hc : X.calm = true) (hi : PI X tg iter wi) (hg : PG X tg g) (hb : PSs X body tb)
    (hs : ∀ x, foldedSetIterable iter X.env x = pure x := by intro _; rfl) : PS X (.For tg iter body [] pos) (tFor wi g tb) := by
  intro pins s σ H D I h
  refine wpAny_For (thn (hi pins s σ H _ I h) fun v s1 h1 => thn h1 fun itv s2 h2 => ?_) hs
  obtain ⟨it, fp, tn, J, H2, e, I2, T, st2, f2, W, ⟨m0, w0⟩, turn⟩ := h2
  subst e
  -- what stays true of the iterator's objects through the loop
  have stat : ∀ {H' : Hp}, (∀ b ∈ fp, H' b = none) → ∀ b ∈ fp, FpOk X pins H' b := fun hn b hb => ⟨hn b hb, (f2 b hb).2⟩
  refine codeAny_forLoop_any (fun n s' => ∃ i σ' H', Inv X pins σ' H' s' ∧ tn i s'.heap ∧ (∀ b ∈ fp, H' b = none) ∧ W i n σ' H') ?_ m0 ⟨0, σ, H2, I2, st2, fun b hb => (f2 b hb).1, w0⟩
  rintro n s3 ⟨i, σ3, H3, I3, st3, fr3, w3⟩
  rcases turn i n σ3 H3 w3 with ⟨stop, qn⟩ | ⟨go, N, hN, step⟩
  · refine wpAny_passesOwn hp (thn (T.done X rfl rfl rfl hc i pins s3 σ3 H3 X.xe I3 (stat fr3) st3 stop) fun r s4 ⟨hr, I4⟩ => ?_)
    subst hr
    exact wpAny_execs_nil ⟨σ3, H3, I4, qn⟩
  · refine wpAny_passesOwn hp (thn (T.item X rfl rfl rfl hc i pins s3 σ3 H3 X.xe I3 (stat fr3) st3 go) fun r s4 ⟨u, hr, h4⟩ => ?_)
    subst hr
    refine wpAny_passesOwn hp (thn h4 fun _ s5 ⟨x, H5, I5, r5, y5, st5, fr5⟩ => ?_)
    have I5' := I5.pinned (stat fr5) (T.obj _ _ st5)
    refine wpAny_passesOwn hp (thn (hg _ s5 σ3 H5 x u _ I5' r5 (step x H5 y5)) fun _ s6 ⟨σ6, H6, I6, q6⟩ => ?_)
    refine wpAny_passesOwn hp (thn (hb _ s6 σ6 H6 _ I6 q6) fun f s7 q7 => ?_)
    have again : ∀ {σ7 : St} {H7 : Hp}, Inv X (pins ++ pinsAt fp s5.heap) σ7 H7 s7 → N σ7 H7 → ∃ m, m < n ∧ ∃ i σ' H', Inv X pins σ' H' s7 ∧ tn i s7.heap ∧ (∀ b ∈ fp, H' b = none) ∧ W i m σ' H' := fun {σ7 H7} I7 n7 => by
      obtain ⟨m', hm, w7⟩ := hN σ7 H7 n7
      refine ⟨m', hm, i + 1, σ7, H7, I7.unpinned, T.keep _ _ _ st5 fun b hb o e => (I7.pin (b, o) (List.mem_append_right _ (List.mem_append_right _ (mem_pinsAt hb e)))).1, fun b hb => ?_, w7⟩
      obtain ⟨o, e, d⟩ := T.obj _ _ st5 b hb
      exact (I7.pin (b, o) (List.mem_append_right _ (List.mem_append_right _ (mem_pinsAt hb e)))).2.1
    cases f with
    | next => obtain ⟨σ7, H7, I7, n7⟩ := q7; exact again I7 n7
    | cont => obtain ⟨σ7, H7, I7, n7⟩ := q7; exact again I7 n7
    | brk => obtain ⟨σ7, H7, I7, q7⟩ := q7; exact ⟨σ7, H7, I7.unpinned, q7⟩
    | ret v => obtain ⟨x7, σ7, H7, I7, r7, q7⟩ := q7; exact ⟨x7, σ7, H7, I7.unpinned, r7, q7⟩
end

/-! ### the forms one uses -/
/-- over a list that the body leaves as it is -/
theorem for_list {K : PySem.W.Frag} {a : Addr} {xs : List V} {g : TG} {tb : TS} {D : Ends} {σ : St} {H : Hp} (Pv : Nat → St → Hp → Prop) (h0 : Pv 0 σ H) (hl : ∀ i σ H, i ≤ xs.length → Pv i σ H → SqL K H a xs)
    (hs : ∀ i x σ H, xs[i]? = some x → Pv i σ H → g x σ H fun σ2 H2 => tb { D with nx := Pv (i + 1), ct := Pv (i + 1), bk := D.nx } σ2 H2) (hd : ∀ σ H, Pv xs.length σ H → D.nx σ H) :
    ∃ W : Nat → Nat → St → Hp → Prop, (∃ m, W 0 m σ H) ∧ ∀ i m σ H, W i m σ H →
      ((Itl K a).stop i H ∧ D.nx σ H) ∨ ((Itl K a).go i H ∧ ∃ N : St → Hp → Prop, (∀ σ' H', N σ' H' → ∃ m', m' < m ∧ W (i + 1) m' σ' H') ∧ ∀ x H', (Itl K a).yld i H x H' → g x σ H' fun σ2 H2 => tb { D with nx := N, ct := N, bk := D.nx } σ2 H2) := by
  refine ⟨fun i m σ H => m = xs.length - i ∧ i ≤ xs.length ∧ Pv i σ H, ⟨xs.length, by simp, Nat.zero_le _, h0⟩, ?_⟩
  rintro i m σ H ⟨rfl, hi, p⟩
  have q := hl i σ H hi p
  by_cases hlt : i < xs.length
  · refine .inr ⟨⟨xs, xs[i], q, by simp [hlt]⟩, Pv (i + 1), fun σ' H' p' => ⟨xs.length - (i + 1), by omega, rfl, hlt, p'⟩, fun x H' y => ?_⟩
    obtain ⟨e, y⟩ := y
    subst e
    exact hs i x σ _ (y xs q) p
  · have e : i = xs.length := by omega
    subst e
    exact .inl ⟨⟨xs, q, Nat.le_refl _⟩, hd σ H p⟩
theorem for_range {lo : Int} {n : Nat} {g : TG} {tb : TS} {D : Ends} {σ : St} {H : Hp} (Pv : Nat → St → Hp → Prop) (h0 : Pv 0 σ H)
    (hs : ∀ i σ H, i < n → Pv i σ H → g (.int (lo + i)) σ H fun σ2 H2 => tb { D with nx := Pv (i + 1), ct := Pv (i + 1), bk := D.nx } σ2 H2) (hd : ∀ σ H, Pv n σ H → D.nx σ H) :
    ∃ W : Nat → Nat → St → Hp → Prop, (∃ m, W 0 m σ H) ∧ ∀ i m σ H, W i m σ H →
      ((Itr lo n).stop i H ∧ D.nx σ H) ∨ ((Itr lo n).go i H ∧ ∃ N : St → Hp → Prop, (∀ σ' H', N σ' H' → ∃ m', m' < m ∧ W (i + 1) m' σ' H') ∧ ∀ x H', (Itr lo n).yld i H x H' → g x σ H' fun σ2 H2 => tb { D with nx := N, ct := N, bk := D.nx } σ2 H2) := by
  refine ⟨fun i m σ H => m = n - i ∧ i ≤ n ∧ Pv i σ H, ⟨n, by simp, Nat.zero_le _, h0⟩, ?_⟩
  rintro i m σ H ⟨rfl, hi, p⟩
  by_cases hlt : i < n
  · refine .inr ⟨hlt, Pv (i + 1), fun σ' H' p' => ⟨n - (i + 1), by omega, rfl, hlt, p'⟩, fun x H' y => ?_⟩
    obtain ⟨e, y⟩ := y
    subst e y
    exact hs i σ _ hlt p
  · have e : i = n := by omega
    subst e
    exact .inl ⟨Nat.le_refl _, hd σ H p⟩
end L2

namespace L2
open PySem PySem.Spec PyProof.Rows

abbrev R2 := V → V → Hp → VK → Prop
/-- a two-place operation on values: f is binaryOp op, inplaceOp op or compareOp op -/
def OpR (X : Cx) (f : Value → Value → Sem Value) (r : R2) : Prop :=
  ∀ (pins : List (Addr × Obj)) (s : Shared) (σ : St) (H : Hp) (x y : V) (v u : Value) (Q : VK), Inv X pins σ H s → RelV x v → RelV y u → r x y H Q →
    wpAny (model X.prog X.w) X.A (f v u) (EP X pins σ Q) X.xe s
/-- a one-place operation -/
def UnR (X : Cx) (f : Value → Sem Value) (r : V → Hp → VK → Prop) : Prop :=
  ∀ (pins : List (Addr × Obj)) (s : Shared) (σ : St) (H : Hp) (x : V) (v : Value) (Q : VK), Inv X pins σ H s → RelV x v → r x H Q →
    wpAny (model X.prog X.w) X.A (f v) (EP X pins σ Q) X.xe s
/-- a call of a value that is known (a builtin, a type) with values -/
def CallR (X : Cx) (f : Value) (r : List V → Hp → VK → Prop) : Prop :=
  ∀ (pins : List (Addr × Obj)) (s : Shared) (σ : St) (H : Hp) (xs : List V) (us : List Value) (Q : VK), Inv X pins σ H s → Vals xs us → r xs H Q →
    wpAny (model X.prog X.w) X.A (call f us) (EP X pins σ Q) X.xe s
/-- a value's truth -/
def TruR (X : Cx) (r : V → Hp → (Bool → Hp → Prop) → Prop) : Prop :=
  ∀ (pins : List (Addr × Obj)) (s : Shared) (σ : St) (H : Hp) (x : V) (v : Value) (Q : Bool → Hp → Prop), Inv X pins σ H s → RelV x v → r x H Q →
    wpAny (model X.prog X.w) X.A (truthy v) (TP X pins σ Q) X.xe s

def tOp (r : R2) (ta tb : TE) : TE := fun σ H Q => ta σ H fun x H1 => tb σ H1 fun y H2 => r x y H2 Q
def tUn (r : V → Hp → VK → Prop) (ta : TE) : TE := fun σ H Q => ta σ H fun x H1 => r x H1 Q
/-- ints in, under C, and a value out -/
def rI (C : Int → Int → Prop) (g : Int → Int → V) : R2 := fun x y H Q => ∃ i j, x = .int i ∧ y = .int j ∧ C i j ∧ Q (g i j) H
def rI0 (g : Int → Int → V) : R2 := fun x y H Q => ∃ i j, x = .int i ∧ y = .int j ∧ Q (g i j) H
def rU (g : Int → V) : V → Hp → VK → Prop := fun x H Q => ∃ i, x = .int i ∧ Q (g i) H

section
variable {X : Cx} {a b c : Expr} {ta tb tc : TE} {pos : Pos}

theorem binT (ha : PE X a ta) (hb : PE X b tb) {pins : List (Addr × Obj)} {s : Shared} {σ : St} {H : Hp} {R : V → V → Hp → Prop} (I : Inv X pins σ H s)
    (h : ta σ H fun x H1 => tb σ H1 fun y H2 => R x y H2) {Q : Value → Shared → Prop} {f : Value → Value → Sem Value}
    (hf : ∀ v u s2 x y H2, Inv X pins σ H2 s2 → RelV x v → RelV y u → R x y H2 → wpAny (model X.prog X.w) X.A (f v u) Q X.xe s2) :
    wpAny (model X.prog X.w) X.A (eval a X.env) (fun v s₁ => wpAny (model X.prog X.w) X.A (eval b X.env) (fun u s₂ => wpAny (model X.prog X.w) X.A (f v u) Q X.xe s₂) X.xe s₁) X.xe s := by
  refine thn (ha pins s σ H _ I h) fun v s1 ⟨x, H1, I1, r1, q1⟩ => ?_
  refine thn (hb pins s1 σ H1 _ I1 q1) fun u s2 ⟨y, H2, I2, r2, q2⟩ => ?_
  exact hf v u s2 x y H2 I2 r1 r2 q2

theorem pe_op {op : Operator} {r : R2} (ho : OpR X (binaryOp op) r) (ha : PE X a ta) (hb : PE X b tb) : PE X (.BinOp a op b pos) (tOp r ta tb) := by
  intro pins s σ H Q I h
  exact wpAny_BinOp (binT ha hb I h fun v u s2 x y H2 I2 rx ry q => ho pins s2 σ H2 x y v u Q I2 rx ry q)
theorem pe_un {op : UnaryOp} {r : V → Hp → VK → Prop} (ho : UnR X (unaryOp op) r) (ha : PE X a ta) : PE X (.UnaryOp op a pos) (tUn r ta) := by
  intro pins s σ H Q I h
  exact UnaryOp_ (thn (ha pins s σ H _ I h) fun v s1 ⟨x, H1, I1, r1, q1⟩ => ho pins s1 σ H1 x v Q I1 r1 q1)

/-! ### ints -/
theorem opI {f : Value → Value → Sem Value} {C : Int → Int → Prop} {g : Int → Int → Int}
    (rule : ∀ (i j : Int) (t u : Tok) (s : Shared) (Q : Value → Shared → Prop) (E : Value → Shared → Prop), C i j → Q (.int (g i j) s.toks) { s with toks := s.toks + 1 } → wpAny (model X.prog X.w) X.A (f (.int i t) (.int j u)) Q E s) :
    OpR X f (rI C fun i j => .int (g i j)) := by
  intro pins s σ H x y v u Q I rx ry h
  obtain ⟨i, j, rfl, rfl, hc, q⟩ := h
  obtain ⟨t, rfl⟩ := rx
  obtain ⟨t', rfl⟩ := ry
  exact rule i j t t' s _ _ hc ⟨.int (g i j), H, I.tok _, ⟨_, rfl⟩, q⟩
theorem opI0 {f : Value → Value → Sem Value} {g : Int → Int → Int}
    (rule : ∀ (i j : Int) (t u : Tok) (s : Shared) (Q : Value → Shared → Prop) (E : Value → Shared → Prop), Q (.int (g i j) s.toks) { s with toks := s.toks + 1 } → wpAny (model X.prog X.w) X.A (f (.int i t) (.int j u)) Q E s) :
    OpR X f (rI0 fun i j => .int (g i j)) := by
  intro pins s σ H x y v u Q I rx ry h
  obtain ⟨i, j, rfl, rfl, q⟩ := h
  obtain ⟨t, rfl⟩ := rx
  obtain ⟨t', rfl⟩ := ry
  exact rule i j t t' s _ _ ⟨.int (g i j), H, I.tok _, ⟨_, rfl⟩, q⟩
theorem opB0 {f : Value → Value → Sem Value} {g : Int → Int → Bool}
    (rule : ∀ (i j : Int) (t u : Tok) (s : Shared) (Q : Value → Shared → Prop) (E : Value → Shared → Prop), Q (.bool (g i j)) s → wpAny (model X.prog X.w) X.A (f (.int i t) (.int j u)) Q E s) :
    OpR X f (rI0 fun i j => .bl (g i j)) := by
  intro pins s σ H x y v u Q I rx ry h
  obtain ⟨i, j, rfl, rfl, q⟩ := h
  obtain ⟨t, rfl⟩ := rx
  obtain ⟨t', rfl⟩ := ry
  exact rule i j t t' s _ _ ⟨.bl (g i j), H, I, rfl, q⟩

def CDiv (i j : Int) : Prop := 0 < j ∧ j < 1073741824
def CDivN (i j : Int) : Prop := j ≠ 0 ∧ j.natAbs < 1073741824
def CPow (i j : Int) : Prop := 0 ≤ j ∧ j ≤ 1000000 ∧ i.natAbs < 2 ^ 64
def CMul (i j : Int) : Prop := (-(2 ^ 64) < i ∧ i < 2 ^ 64) ∨ (-(2 ^ 64) < j ∧ j < 2 ^ 64)
theorem CMul.ok {i j : Int} (h : CMul i j) : IntMulOk i j := by
  rcases h with ⟨h1, h2⟩ | ⟨h1, h2⟩
  · exact .of_left (intBits_le_64 h1 h2)
  · exact .of_right (intBits_le_64 h1 h2)

theorem op_add : OpR X (binaryOp .Add) (rI0 fun i j => .int (i + j)) := opI0 fun _ _ _ _ _ _ _ q => add_int q
theorem op_mul : OpR X (binaryOp .Mult) (rI CMul fun i j => .int (i * j)) := opI fun _ _ _ _ _ _ _ hc q => mul_int q hc.ok
/-- // by a positive divisor -/
theorem op_fdiv : OpR X (binaryOp .FloorDiv) (rI CDiv fun i j => .int (i / j)) := opI fun i j _ _ _ _ _ hc q => by
  have h1 : (0 : Int) < j := hc.1
  have h2 : j < 1073741824 := hc.2
  exact floordiv_int (by omega) (by rw [Int.fdiv_eq_ediv_of_nonneg i (by omega)]; exact q) (.inl (PyProof.noPylong_small (by omega)))
/-- % by a positive divisor of any size -/
theorem op_mod : OpR X (binaryOp .Mod) (rI (fun _ j => 0 < j) fun i j => .int (i % j)) := opI fun i j _ _ _ _ _ hc q => by
  have h1 : (0 : Int) < j := hc
  exact mod_int' (by omega) (by rw [Int.fmod_eq_emod_of_nonneg i (by omega)]; exact q)
theorem op_pow : OpR X (binaryOp .Pow) (rI CPow fun i j => .int (i ^ j.toNat)) := opI fun _ _ _ _ _ _ _ hc q => pow_int_small hc.1 hc.2.1 hc.2.2 q

theorem unI {f : Value → Sem Value} {g : Int → Int}
    (rule : ∀ (i : Int) (t : Tok) (s : Shared) (Q : Value → Shared → Prop) (E : Value → Shared → Prop), Q (.int (g i) s.toks) { s with toks := s.toks + 1 } → wpAny (model X.prog X.w) X.A (f (.int i t)) Q E s) :
    UnR X f (rU fun i => .int (g i)) := by
  intro pins s σ H x v Q I rx h
  obtain ⟨i, rfl, q⟩ := h
  obtain ⟨t, rfl⟩ := rx
  exact rule i t s _ _ ⟨.int (g i), H, I.tok _, ⟨_, rfl⟩, q⟩
theorem un_neg : UnR X (unaryOp .USub) (rU fun i => .int (-i)) := unI fun _ _ _ _ _ q => neg_int q

/-! ### bools among ints: n += (a < b) -/
end

/-! ### comparisons -/
/-- the scalars that == tells apart as data does -/
def scal : V → V → Bool
  | .non, .non => true | .non, .int _ => true | .int _, .non => true | .non, .bl _ => true | .bl _, .non => true | .non, .str _ => true | .str _, .non => true
  | .int _, .int _ => true | .bl _, .bl _ => true | .str _, .str _ => true | .byt _, .byt _ => true
  | .int _, .str _ => true | .str _, .int _ => true | .bl _, .str _ => true | .str _, .bl _ => true
  | _, _ => false
def rEq : R2 := fun x y H Q => scal x y = true ∧ Q (.bl (decide (x = y))) H
def rNe : R2 := fun x y H Q => scal x y = true ∧ Q (.bl (!decide (x = y))) H

theorem dec_int {i j : Int} : decide (V.int i = V.int j) = (i == j) := by
  rw [Bool.eq_iff_iff]
  simp
theorem dec_bl {i j : Bool} : decide (V.bl i = V.bl j) = (i == j) := by
  rw [Bool.eq_iff_iff]
  simp
theorem dec_str {i j : Str} : decide (V.str i = V.str j) = (i == j) := by
  rw [Bool.eq_iff_iff]
  simp
theorem dec_byt {i j : Array UInt8} : decide (V.byt i = V.byt j) = (i.toList == j.toList) := by
  rw [Bool.eq_iff_iff]
  cases i
  cases j
  simp

section
variable {X : Cx} {a b c : Expr} {ta tb tc : TE} {pos : Pos}
theorem fin_bl {pins : List (Addr × Obj)} {σ : St} {H : Hp} {s : Shared} {Q : VK} {k k' : Bool} (I : Inv X pins σ H s) (q : Q (.bl k) H) (e : k = k') : EP X pins σ Q (.bool k') s := by
  subst e
  exact ⟨.bl k, H, I, rfl, q⟩
theorem op_eq : OpR X (compareOp .Eq) rEq := by
  intro pins s σ H x y v u Q I rx ry h
  obtain ⟨hs, q⟩ := h
  cases x with
  | non =>
    cases rx
    cases y with
    | non => cases ry; exact PySem.EqNone.eq_none_none (fin_bl I q (by simp))
    | bl j => cases ry; exact PySem.EqNone.eq_none_bool (fin_bl I q (by simp))
    | int j => obtain ⟨t', rfl⟩ := ry; exact PySem.EqNone.eq_none_int (fin_bl I q (by simp))
    | str j => obtain ⟨t', rfl⟩ := ry; exact PySem.EqNone.eq_none_str (fin_bl I q (by simp))
    | _ => exact absurd (show false = true from hs) Bool.false_ne_true
  | bl i =>
    cases rx
    cases y with
    | non => cases ry; exact PySem.EqNone.eq_bool_none (fin_bl I q (by simp))
    | bl j => cases ry; exact eq_bool (fin_bl I q dec_bl)
    | str j => obtain ⟨t', rfl⟩ := ry; exact PySem.EqMixed.eq_bool_str (fin_bl I q (by simp))
    | _ => exact absurd (show false = true from hs) Bool.false_ne_true
  | int i =>
    obtain ⟨t, rfl⟩ := rx
    cases y with
    | non => cases ry; exact PySem.EqNone.eq_int_none (fin_bl I q (by simp))
    | int j => obtain ⟨t', rfl⟩ := ry; exact eq_int (fin_bl I q dec_int)
    | str j => obtain ⟨t', rfl⟩ := ry; exact PySem.EqMixed.eq_int_str (fin_bl I q (by simp))
    | _ => exact absurd (show false = true from hs) Bool.false_ne_true
  | str i =>
    obtain ⟨t, rfl⟩ := rx
    cases y with
    | non => cases ry; exact PySem.EqNone.eq_str_none (fin_bl I q (by simp))
    | bl j => cases ry; exact PySem.EqMixed.eq_str_bool (fin_bl I q (by simp))
    | int j => obtain ⟨t', rfl⟩ := ry; exact PySem.EqMixed.eq_str_int (fin_bl I q (by simp))
    | str j => obtain ⟨t', rfl⟩ := ry; exact eq_str (fin_bl I q dec_str)
    | _ => exact absurd (show false = true from hs) Bool.false_ne_true
  | byt i =>
    obtain ⟨t, rfl⟩ := rx
    cases y with
    | byt j => obtain ⟨t', rfl⟩ := ry; exact PySem.W.eq_bytes (fin_bl I q dec_byt)
    | _ => exact absurd (show false = true from hs) Bool.false_ne_true
  | _ => cases y <;> exact absurd (show false = true from hs) Bool.false_ne_true
theorem op_ne : OpR X (compareOp .NotEq) rNe := by
  intro pins s σ H x y v u Q I rx ry h
  obtain ⟨hs, q⟩ := h
  cases x with
  | non =>
    cases rx
    cases y with
    | non => cases ry; exact PySem.EqNone.ne_none_none (fin_bl I q (by simp))
    | bl j => cases ry; exact PySem.EqNone.ne_none_bool (fin_bl I q (by simp))
    | int j => obtain ⟨t', rfl⟩ := ry; exact PySem.EqNone.ne_none_int (fin_bl I q (by simp))
    | str j => obtain ⟨t', rfl⟩ := ry; exact PySem.EqNone.ne_none_str (fin_bl I q (by simp))
    | _ => exact absurd (show false = true from hs) Bool.false_ne_true
  | bl i =>
    cases rx
    cases y with
    | non => cases ry; exact PySem.EqNone.ne_bool_none (fin_bl I q (by simp))
    | bl j => cases ry; exact ne_bool (fin_bl I q (congrArg not dec_bl))
    | str j => obtain ⟨t', rfl⟩ := ry; exact PySem.EqMixed.ne_bool_str (fin_bl I q (by simp))
    | _ => exact absurd (show false = true from hs) Bool.false_ne_true
  | int i =>
    obtain ⟨t, rfl⟩ := rx
    cases y with
    | non => cases ry; exact PySem.EqNone.ne_int_none (fin_bl I q (by simp))
    | int j => obtain ⟨t', rfl⟩ := ry; exact ne_int (fin_bl I q (congrArg not dec_int))
    | str j => obtain ⟨t', rfl⟩ := ry; exact PySem.EqMixed.ne_int_str (fin_bl I q (by simp))
    | _ => exact absurd (show false = true from hs) Bool.false_ne_true
  | str i =>
    obtain ⟨t, rfl⟩ := rx
    cases y with
    | non => cases ry; exact PySem.EqNone.ne_str_none (fin_bl I q (by simp))
    | bl j => cases ry; exact PySem.EqMixed.ne_str_bool (fin_bl I q (by simp))
    | int j => obtain ⟨t', rfl⟩ := ry; exact PySem.EqMixed.ne_str_int (fin_bl I q (by simp))
    | str j => obtain ⟨t', rfl⟩ := ry; exact ne_str (fin_bl I q (congrArg not dec_str))
    | _ => exact absurd (show false = true from hs) Bool.false_ne_true
  | byt i =>
    obtain ⟨t, rfl⟩ := rx
    cases y with
    | byt j => obtain ⟨t', rfl⟩ := ry; exact PySem.W.ne_bytes (fin_bl I q (congrArg not dec_byt))
    | _ => exact absurd (show false = true from hs) Bool.false_ne_true
  | _ => cases y <;> exact absurd (show false = true from hs) Bool.false_ne_true

theorem op_lt : OpR X (compareOp .Lt) (rI0 fun i j => .bl (decide (i < j))) := opB0 fun _ _ _ _ _ _ _ q => lt_int q
theorem op_gt : OpR X (compareOp .Gt) (rI0 fun i j => .bl (decide (j < i))) := opB0 fun _ _ _ _ _ _ _ q => gt_int q
theorem op_ge : OpR X (compareOp .GtE) (rI0 fun i j => .bl (decide (j ≤ i))) := opB0 fun _ _ _ _ _ _ _ q => ge_int q
/-- the one string within the other -/
theorem op_in_str : OpR X (compareOp .In) (fun x y H Q => ∃ i j, x = .str i ∧ y = .str j ∧ Q (.bl (!(Builtin.Str.occurrences j i 0 j.length 1).isEmpty)) H) := by
  intro pins s σ H x y v u Q I rx ry h
  obtain ⟨i, j, rfl, rfl, q⟩ := h
  obtain ⟨t, rfl⟩ := rx
  obtain ⟨t', rfl⟩ := ry
  exact in_str (fin_bl I q rfl)

/-- is None, is not None: the right side a value none -/
theorem op_isN : OpR X (compareOp .Is) (fun x y H Q => y = .non ∧ Q (.bl (decide (x = .non))) H) := by
  intro pins s σ H x y v u Q I rx ry h
  obtain ⟨rfl, q⟩ := h
  cases ry
  refine is_none_gen (fin_bl I q ?_)
  cases x <;> first
    | (cases rx; rfl)
    | (obtain ⟨t, rfl⟩ := rx; rfl)

/-- is, is not of two objects that are tracked lists or instances -/
def isObj : HO → Bool
  | .lst _ => true
  | .ins _ _ _ => true
  | _ => false

/-- two rules for one operation: by cases -/
theorem OpR.or {f : Value → Value → Sem Value} {r r' : R2} (h : OpR X f r) (h' : OpR X f r') : OpR X f (fun x y H Q => r x y H Q ∨ r' x y H Q) := by
  intro pins s σ H x y v u Q I rx ry q
  rcases q with q | q
  · exact h pins s σ H x y v u Q I rx ry q
  · exact h' pins s σ H x y v u Q I rx ry q

theorem nomark (b : Expr) {op : CmpOp} (h : op ≠ .In := by decide) (h2 : op ≠ .NotIn := by decide) : behindInMarks op b = false := by
  have e1 : (op == CmpOp.In) = false := by cases op <;> first | rfl | exact absurd rfl h
  have e2 : (op == CmpOp.NotIn) = false := by cases op <;> first | rfl | exact absurd rfl h2
  cases b <;> simp [behindInMarks, e1, e2]
/-- a comparison as a value; hm: nomark b, or (for in, not in) by with_unfolding_all rfl -/
theorem pe_cmpR {op : CmpOp} {r : R2} (ho : OpR X (compareOp op) r) (ha : PE X a ta) (hb : PE X b tb) (hm : behindInMarks op b = false) : PE X (.Compare a [op] [b] pos) (tOp r ta tb) := by
  intro pins s σ H Q I h
  exact wpAny_Compare1 (binT ha hb I h fun v u s2 x y H2 I2 rx ry q => ho pins s2 σ H2 x y v u Q I2 rx ry q) hm
/-- a reading of a value as a test -/
def tTest (t : TE) : TT := fun σ H Q => t σ H fun x H' => ∃ k, x = .bl k ∧ Q k H'
theorem pt_cmpR {op : CmpOp} {r : R2} (ho : OpR X (compareOp op) r) (ha : PE X a ta) (hb : PE X b tb) (hm : behindInMarks op b = false) : PT X (.Compare a [op] [b] pos) (tTest (tOp r ta tb)) := by
  intro pins s σ H Q I h
  refine wpAny_isTrue_Compare1 (thn (ha pins s σ H _ I h) fun v s1 ⟨x, H1, I1, r1, q1⟩ => thn (hb pins s1 σ H1 _ I1 q1) fun u s2 ⟨y, H2, I2, r2, q2⟩ =>
    thn (ho pins s2 σ H2 x y v u _ I2 r1 r2 q2) fun c s3 ⟨z, H3, I3, r3, k, e, q3⟩ => ?_) hm
  subst e
  cases r3
  exact wpAny_truthy_bool ⟨H3, I3, q3⟩
/-- a op1 b op2 c -/
def tChain (r r' : R2) (ta tb tc : TE) : TE := fun σ H Q => ta σ H fun x H1 => tb σ H1 fun y H2 => r x y H2 fun z H3 => ∃ k, z = .bl k ∧
  (if k = true then tc σ H3 fun w' H4 => r' y w' H4 Q else Q (.bl false) H3)

/-! ### truth -/
/-- a value's truth by the abstract heap -/
def TruV (K : PySem.W.Frag) (x : V) (H : Hp) (k : Bool) : Prop :=
  match x with
  | .non => k = false
  | .bl b => k = b
  | .int i => k = (i != 0)
  | .str y => y.length ≤ sizeLine ∧ k = ((y.length : Int) != 0)
  | .byt y => y.size ≤ sizeLine ∧ k = ((y.size : Int) != 0)
  | .ref p => (∃ xs, SqL K H p xs ∧ k = !xs.isEmpty) ∨ (∃ xs, SqT K H p xs ∧ k = !xs.isEmpty) ∨ ∃ kvs, H p = some (.dK kvs) ∧ k = !kvs.isEmpty
  | _ => False
theorem line63 : (sizeLine : Nat) < 2 ^ 63 := by rw [sizeLine_eq]; decide

/-! ### strs and bytes -/
theorem op_add_str : OpR X (binaryOp .Add) (fun x y H Q => ∃ i j, x = .str i ∧ y = .str j ∧ i.length + j.length ≤ sizeLine ∧ Q (.str (i ++ j)) H) := by
  intro pins s σ H x y v u Q I rx ry h
  obtain ⟨i, j, rfl, rfl, hz, q⟩ := h
  obtain ⟨t, rfl⟩ := rx
  obtain ⟨t', rfl⟩ := ry
  exact add_str (fun t' tk => ⟨.str (i ++ j), H, I.tok _, ⟨_, rfl⟩, q⟩) hz

def PlainIxT (b : Expr) : Prop := ∀ o i, subscripted b false o i = operate [o, i] (getItem o i)

/-! ### scalar builtins, by CallR -/
theorem vals1 {x : V} {us : List Value} (r : Vals [x] us) : ∃ u, us = [u] ∧ RelV x u := by
  cases r with
  | cons r1 r2 => cases r2; exact ⟨_, rfl, r1⟩
theorem vals2 {x y : V} {us : List Value} (r : Vals [x, y] us) : ∃ u w', us = [u, w'] ∧ RelV x u ∧ RelV y w' := by
  cases r with
  | cons r1 r2 =>
    cases r2 with
    | cons r3 r4 => cases r4; exact ⟨_, _, rfl, r1, r3⟩
/-- len of a str, a bytes, a list, a tuple -/
def LenV (K : PySem.W.Frag) (x : V) (H : Hp) (n : Nat) : Prop :=
  match x with
  | .str y => y.length ≤ sizeLine ∧ n = y.length
  | .byt y => y.size ≤ sizeLine ∧ n = y.size
  | .ref p => (∃ xs, SqL K H p xs ∧ n = xs.length) ∨ ∃ xs, SqT K H p xs ∧ n = xs.length
  | _ => False
end
end L2

namespace L2
open PySem PySem.Spec PyProof.Rows

/-! ### an instance, its attributes a map -/
structure ObjM (h : Heap) (x dx C : Addr) (mA : Str → Option Value) : Prop where
  obj : h.get? x = some (PySem.W.instObj C dx)
  ns : h.Ns1 dx mA
  ne : dx ≠ x

theorem lookIn_ns {h : Heap} {dx : Addr} {mA : Str → Option Value} (n : h.Ns1 dx mA) : ∃ od, h.get? dx = some od ∧ ∀ name, PySem.W.lookIn name od = some (mA name) := by
  obtain ⟨o, es, ep, ho, hd, hk, _, hm⟩ := n
  refine ⟨o, ho, fun name => ?_⟩
  have e := hm name
  unfold nsFind findBy at e
  rw [← Array.find?_toList] at e
  unfold PySem.W.lookIn
  rw [hd]
  dsimp only
  split
  · rename_i y q
    rw [q] at e
    exact congrArg some e
  · rename_i q
    rw [q] at e
    have a : es.toList.any (·.refKey) = false := by
      rw [List.any_eq_false]
      intro y hy
      obtain ⟨z, t, hkey⟩ := hk y (Array.mem_toList_iff.mp hy)
      simp [DictEntry.refKey, hkey]
    have a' : ¬ es.toList.any (·.refKey) = true := by rw [a]; exact Bool.false_ne_true
    rw [if_neg a']
    exact congrArg some e

theorem ObjM.look {h : Heap} {x dx C : Addr} {mA : Str → Option Value} (I : ObjM h x dx C mA) : ∃ od, PySem.W.InstAt h x (PySem.W.instObj C dx) C (some od) ∧ ∀ name, PySem.W.lookIn name od = some (mA name) :=
  let ⟨od, ho, hl⟩ := lookIn_ns I.ns
  ⟨od, ⟨I.obj, rfl, rfl, ho⟩, hl⟩

section
variable {prog : Program} {w : World} {A : Around} {E : Value → Shared → Prop} {s : Shared} {K : PySem.W.Frag} {x dx C f : Addr} {mA : Str → Option Value} {name : Str} {v : Value}

theorem get_map {expr : Bool} {Q : Value → Shared → Prop} (X : K.In s.heap) (I : ObjM s.heap x dx C mA) (hg : PySem.W.plainGet K C name = true) (hh : PySem.W.hasDictIn K C = true)
    (ha : PySem.W.findIn K (.ref C) name = some none) (hv : mA name = some v) (hv' : PySem.W.handedIn v = true) (h : Q v { s with toks := s.toks + 1 }) :
    wpAny (model prog w) A (getAttr (.ref x) name expr) Q E s := by
  obtain ⟨od, J, hl⟩ := I.look
  exact PySem.W.get_value X J (PySem.W.plainGet_of hg).1 (PySem.W.findObj_own hh ha rfl (by rw [hl, hv])) hv' h

theorem get_meth {pl : Sem Bool} {Q : Value × List Value → Shared → Prop} (X : K.In s.heap) (I : ObjM s.heap x dx C mA) (hg : PySem.W.plainGet K C name = true)
    (hf : PySem.W.findIn K (.ref C) name = some (some (.ref f))) (ht : PySem.W.isFn K (.ref f) = true) (hv : mA name = none) (h : Q (.ref f, [.ref x]) s) :
    wpAny (model prog w) A (getMethod (.ref x) name pl) Q E s := by
  obtain ⟨od, J, hl⟩ := I.look
  exact PySem.W.method_fn X J (PySem.W.plainGet_of hg).1 (PySem.W.plainGet_of hg).2 hf (beq_iff_eq.mp ht) (by show (PySem.W.lookIn name od).map (·.isSome) = some false; rw [hl, hv]; rfl) h

theorem set_map {ns : List Str} {Q : Unit → Shared → Prop} (X : K.In s.heap) (I : ObjM s.heap x dx C mA)
    (hs : PySem.W.findIn K (.ref C) "__setattr__" = some (some (.builtin "object.__setattr__"))) (hp : PySem.W.plainOver K C = true) (ht : PySem.W.takerIn K C name = some none) (hh : PySem.W.hasDictIn K C = true)
    (hw : PySem.Within mA ns) (hsz : ns.length ≤ sizeLine)
    (h : ∀ h', ObjM h' x dx C (fun y => if y = name then some v else mA y) → Heap.SameBut dx s.heap h' → Q () { s with heap := h', toks := s.toks + 2 }) :
    wpAny (model prog w) A (setAttr (.ref x) name v) Q E s := by
  obtain ⟨od, J, hl⟩ := I.look
  refine PySem.W.set_plain X J hs (PySem.W.osa_open (s := { s with toks := s.toks + 1 }) (r := none) X J hp ht fun b => ?_)
  obtain ⟨cd, hc, hd'⟩ := PySem.W.any_some hh
  have hx : s.heap.get? x = some ⟨.ref C, some dx, .plain, #[]⟩ := I.obj
  refine wpAny_bind (wpAny_pure (wpAny_bind (wpAny_bind (wpAny_loadPart hx (wpAny_bind (PySem.W.Looks.here (s := { s with toks := s.toks + 1 }) (PySem.W.looks_clsIn X hc) ?_))))))
  rw [hd']
  refine wpAny_pure (a := some dx) (wpAny_bind (wpAny_pure (wpAny_bind ?_)))
  refine wpAny_nsSet1 (s := { s with toks := s.toks + 1 }) I.ns fun h' hn2 hs2 => ?_
  obtain ⟨oD, esD, epD, hoD, hdD, hcD⟩ := hn2.count (PySem.Within.cons name v hw)
  refine wpAny_bind (wpAny_lookBehind hoD (by rw [hdD]; exact pastItsLine_dict (Nat.le_trans hcD (by rw [List.length_cons]; omega))) ?_)
  exact wpAny_pure (h _ ⟨(hs2.2 _ (Ne.symm I.ne)).trans I.obj, hn2, I.ne⟩ hs2)

/-- C(..): the dict at the heap's end, the instance behind it; then its __init__ -/
theorem make_map {R : Result → Shared → Prop} {vs : List Value} {kw : List (Str × Value)} (X : K.In s.heap) (hm : PySem.W.makesIn K C = true)
    (hi : PySem.W.findIn K (.ref C) "__init__" = some (some (.ref f))) (hf : PySem.W.typeIn K (.ref f) = some (.type "function"))
    (h : codeAny (model prog w) (A.under (.builtin "type.__call__" ⟨.ref C :: vs, kw⟩)) (.call (.ref f) ⟨.ref (s.heap.objs.size + 1) :: vs, kw⟩) (PySem.W.InitBack (s.heap.objs.size + 1) R)
      { s with heap := (s.heap.push PySem.W.emptyDict).push (PySem.W.instObj C s.heap.objs.size) }) :
    codeAny (model prog w) A (.call (.ref C) ⟨vs, kw⟩) R s := by
  obtain ⟨hh, g, d, t, os⟩ := s
  exact PySem.W.make_core (PySem.W.makes_of X hm) (PySem.W.looks_findIn X hi) (fun self => PySem.W.bind_fn X self hf) (.inl rfl) h
end

/-! ### the attributes as a list of pairs -/
def putF (f : Str) (v : V) : List (Str × V) → List (Str × V)
  | [] => [(f, v)]
  | (g, x) :: r => if g = f then (g, v) :: r else (g, x) :: putF f v r
theorem lookup_putF (f g : Str) (v : V) : ∀ fs : List (Str × V), (putF f v fs).lookup g = if g = f then some v else fs.lookup g
  | [] => by
    show List.lookup g [(f, v)] = _
    by_cases h : g = f
    · have hb : (g == f) = true := beq_iff_eq.mpr h
      simp only [List.lookup, hb, if_pos h]
    · have hb : (g == f) = false := beq_eq_false_iff_ne.mpr h
      simp only [List.lookup, hb, if_neg h]
  | (k, x) :: r => by
    have ih := lookup_putF f g v r
    rw [show putF f v ((k, x) :: r) = (if k = f then (k, v) :: r else (k, x) :: putF f v r) from rfl]
    by_cases hk : k = f
    · rw [if_pos hk]
      by_cases h : g = k
      · have hb : (g == k) = true := beq_iff_eq.mpr h
        simp only [List.lookup, hb, if_pos (h.trans hk)]
      · have hb : (g == k) = false := beq_eq_false_iff_ne.mpr h
        simp only [List.lookup, hb, if_neg (fun e : g = f => h (e.trans hk.symm))]
    · rw [if_neg hk]
      by_cases h : g = k
      · have hb : (g == k) = true := beq_iff_eq.mpr h
        simp only [List.lookup, hb, if_neg (fun e : g = f => hk (h.symm.trans e))]
      · have hb : (g == k) = false := beq_eq_false_iff_ne.mpr h
        simp only [List.lookup, hb]
        exact ih
theorem keys_putF (f : Str) (v : V) : ∀ fs : List (Str × V), f ∈ (putF f v fs).map (·.1) ∧ ∀ g, g ∈ fs.map (·.1) → g ∈ (putF f v fs).map (·.1)
  | [] => ⟨by simp [putF], fun g h => by simp at h⟩
  | (k, x) :: r => by
    obtain ⟨i1, i2⟩ := keys_putF f v r
    rw [show putF f v ((k, x) :: r) = (if k = f then (k, v) :: r else (k, x) :: putF f v r) from rfl]
    by_cases hk : k = f
    · rw [if_pos hk]
      subst hk
      exact ⟨by simp, fun g h => by simpa using h⟩
    · rw [if_neg hk]
      refine ⟨?_, fun g h => ?_⟩
      · rw [List.map_cons]
        exact List.mem_cons_of_mem _ i1
      · rw [List.map_cons] at h ⊢
        rcases List.mem_cons.mp h with e | e
        · exact List.mem_cons.mpr (.inl e)
        · exact List.mem_cons_of_mem _ (i2 g e)
theorem length_putF (f : Str) (v : V) : ∀ fs : List (Str × V), (putF f v fs).length ≤ fs.length + 1
  | [] => by simp [putF]
  | (k, x) :: r => by
    have ih := length_putF f v r
    rw [show putF f v ((k, x) :: r) = (if k = f then (k, v) :: r else (k, x) :: putF f v r) from rfl]
    by_cases hk : k = f
    · rw [if_pos hk, List.length_cons, List.length_cons]; omega
    · rw [if_neg hk, List.length_cons, List.length_cons]; omega

theorem RelO.some_of {v : V} {o : Option Value} (r : RelO (some v) o) : ∃ u, o = some u ∧ RelV v u := by
  cases o with
  | none => exact (show False from r).elim
  | some u => exact ⟨u, rfl, r⟩
theorem RelO.none_of {o : Option Value} (r : RelO none o) : o = none := by
  cases o with
  | none => rfl
  | some u => exact (show False from r).elim
theorem handed_of {v : V} {u : Value} (r : RelV v u) : PySem.W.handedIn u = true := by
  cases v with
  | non => cases (show u = Value.none from r); rfl
  | bl b => cases (show u = Value.bool b from r); rfl
  | int i => obtain ⟨t, e⟩ := (show ∃ t, u = Value.int i t from r); cases e; rfl
  | str x => obtain ⟨t, e⟩ := (show ∃ t, u = Value.str x t from r); cases e; rfl
  | byt b => obtain ⟨t, e⟩ := (show ∃ t, u = Value.bytes b t from r); cases e; rfl
  | flt b => obtain ⟨t, e⟩ := (show ∃ t, u = Value.float b t from r); cases e; rfl
  | ref a => cases (show u = Value.ref a from r); rfl
  | ty n => cases (show u = Value.type n from r); rfl

section
variable {P : Program} {w : World} {H H' : Hp} {h h' : Heap} {a C dx : Addr} {fs fs' : List (Str × V)}
theorem ins_get (hok : HOk P w H h) (e : H a = some (.ins C dx fs)) : ∃ mA, ObjM h a dx C mA ∧ (∀ f, RelO (fs.lookup f) (mA f)) ∧ PySem.Within mA (fs.map (·.1)) ∧ fs.length ≤ 1000 ∧ H dx = some (.own a) := by
  obtain ⟨d, z, ne, ob, mA, n, r, q⟩ := (show ObjOk P w H h a (.ins C dx fs) from hok a _ e)
  exact ⟨mA, ⟨ob, n, ne⟩, r, q, z, d⟩
end

/-! ### what of the text a class must have -/
structure Cls (K : PySem.W.Frag) (C : Addr) : Prop where
  pg : PySem.W.plainGet K C Str.empty = true
  hd : PySem.W.hasDictIn K C = true
  po : PySem.W.plainOver K C = true
  sa : PySem.W.findIn K (.ref C) "__setattr__" = some (some (.builtin "object.__setattr__"))
theorem Cls.get {K : PySem.W.Frag} {C : Addr} (c : Cls K C) (f : Str) : PySem.W.plainGet K C f = true := c.pg
/-- no class of it has the name -/
def NoAttr (K : PySem.W.Frag) (C : Addr) (f : Str) : Prop := PySem.W.findIn K (.ref C) f = some none
theorem NoAttr.taker {K : PySem.W.Frag} {C : Addr} {f : Str} (n : NoAttr K C f) : PySem.W.takerIn K C f = some none := by
  unfold PySem.W.takerIn
  rw [show PySem.W.findIn K (.ref C) f = some none from n]
  rfl
/-- a constant of the class -/
structure Con (K : PySem.W.Frag) (C : Addr) (f : Str) (v : V) (u : Value) : Prop where
  at_ : PySem.W.findIn K (.ref C) f = some (some u)
  rel : RelV v u
  get : PySem.W.specialIn K u "__get__" = some none
  cp : PySem.W.copiedNames.contains f = false
/-- a method: a plain def of the class or of one above it -/
structure Meth (K : PySem.W.Frag) (C : Addr) (m : Str) (f : Addr) : Prop where
  at_ : PySem.W.findIn K (.ref C) m = some (some (.ref f))
  fn : PySem.W.isFn K (.ref f) = true
  kp : PySem.W.keepIn K (.ref f) = true

section
variable {X : Cx} {pins : List (Addr × Obj)} {σ : St} {H : Hp} {s : Shared} {a C dx : Addr} {fs : List (Str × V)} {f : Str} {v : V} {A : Around} {E : Value → Shared → Prop}

theorem getattr_ok {b : Bool} {Q : Value → Shared → Prop} (I : Inv X pins σ H s) (e : H a = some (.ins C dx fs)) (c : Cls X.K C) (n : NoAttr X.K C f) (l : fs.lookup f = some v)
    (h : ∀ u s', Inv X pins σ H s' → RelV v u → Q u s') : wpAny (model X.prog X.w) A (getAttr (.ref a) f b) Q E s := by
  obtain ⟨mA, O, r, _, _, _⟩ := ins_get I.hok e
  obtain ⟨u, hu, ru⟩ := RelO.some_of (v := v) (o := mA f) (by rw [← l]; exact r f)
  exact get_map I.kIn O (c.get f) c.hd n hu (handed_of ru) (h u _ (I.tok _) ru)

theorem getmeth_ok {m : Str} {g : Addr} {pl : Sem Bool} {Q : Value × List Value → Shared → Prop} (I : Inv X pins σ H s) (e : H a = some (.ins C dx fs)) (c : Cls X.K C) (k : Meth X.K C m g) (l : fs.lookup m = none)
    (h : Q (.ref g, [.ref a]) s) : wpAny (model X.prog X.w) A (getMethod (.ref a) m pl) Q E s := by
  obtain ⟨mA, O, r, _, _, _⟩ := ins_get I.hok e
  have hn : mA m = none := RelO.none_of (by rw [← l]; exact r m)
  exact get_meth I.kIn O (c.get m) k.at_ k.fn hn h

theorem setattr_ok {y : V} {u : Value} {Q : Unit → Shared → Prop} (I : Inv X pins σ H s) (e : H a = some (.ins C dx fs)) (c : Cls X.K C) (n : NoAttr X.K C f) (hl : fs.length < 1000) (ry : RelV y u)
    (h : ∀ s', Inv X pins σ (upd H a (.ins C dx (putF f y fs))) s' → Q () s') : wpAny (model X.prog X.w) A (setAttr (.ref a) f u) Q E s := by
  obtain ⟨mA, O, r, wi, _, ho⟩ := ins_get I.hok e
  have hz : (fs.map (·.1)).length ≤ sizeLine := by rw [List.length_map, sizeLine_eq]; omega
  refine set_map I.kIn O c.sa c.po n.taker c.hd wi hz fun h' O' sb => h _ ?_
  have hd : ∃ o, h'.get? dx = some o := let ⟨o, _, _, e', _⟩ := O'.ns; ⟨o, e'⟩
  refine I.write (x := a) (e := dx) (by rw [e]; exact True.intro) (.inr ho) (fun b q hb z => (sb.2 b hb).trans z) hd ?_
  refine ⟨by rw [upd_ne O.ne]; exact ho, ?_, O.ne, O'.obj, _, O'.ns, fun g => ?_, fun g hg => ?_⟩
  · have := length_putF f y fs; omega
  · show RelO ((putF f y fs).lookup g) (if g = f then some u else mA g)
    rw [lookup_putF]
    by_cases q : g = f
    · rw [if_pos q, if_pos q]; exact ry
    · rw [if_neg q, if_neg q]; exact r g
  · by_cases q : g = f
    · rw [q]; exact (keys_putF f y fs).1
    · refine (keys_putF f y fs).2 g (wi g fun z => hg ?_)
      show (if g = f then some u else mA g) = none
      rw [if_neg q]; exact z

/-- a new instance, tracked, without attributes -/
theorem Inv.made (I : Inv X pins σ H s) : Inv X pins σ (upd (upd H s.heap.objs.size (.own (s.heap.objs.size + 1))) (s.heap.objs.size + 1) (.ins C s.heap.objs.size []))
    { s with heap := (s.heap.push PySem.W.emptyDict).push (PySem.W.instObj C s.heap.objs.size) } := by
  have e1 : (s.heap.push PySem.W.emptyDict).get? s.heap.objs.size = some PySem.W.emptyDict := Heap.get?_push_size s.heap rfl
  have e2 : ((s.heap.push PySem.W.emptyDict).push (PySem.W.instObj C s.heap.objs.size)).get? (s.heap.objs.size + 1) = some (PySem.W.instObj C s.heap.objs.size) := by
    have := Heap.get?_push_size (s.heap.push PySem.W.emptyDict) (o := PySem.W.instObj C s.heap.objs.size) rfl
    rwa [Heap.size_push] at this
  have e3 : (s.heap.push PySem.W.emptyDict).Ns s.heap.objs.size (fun _ => none) := ⟨PySem.W.emptyDict, #[], _, e1, rfl, (fun e he => absurd he (by simp)), fun _ => rfl⟩
  have I1 := I.laid (a := s.heap.objs.size) (o := .own (s.heap.objs.size + 1)) (h' := s.heap.push PySem.W.emptyDict) (t' := s.toks) (fun b u q => Heap.get?_push_of_some _ q) (Nat.le_refl _) ⟨_, e1⟩
  refine I1.laid (a := s.heap.objs.size + 1) (o := .ins C s.heap.objs.size []) (t' := s.toks) (fun b u q => Heap.get?_push_of_some _ q) (Nat.le_of_eq (Heap.size_push _ _)) ?_
  have ne : s.heap.objs.size ≠ s.heap.objs.size + 1 := Nat.ne_of_lt (Nat.lt_succ_self _)
  refine ⟨by rw [upd_ne ne, upd_same], Nat.zero_le _, ne, e2, fun _ => none, (Heap.Ns1.of_empty e3).at fun o q => Heap.get?_push_of_some _ q, fun _ => True.intro, fun y hy => absurd rfl hy⟩

/-- e.f where nothing but the object is asked: through attributeBase (super) and the last hold -/
theorem attr_of {prog : Program} {w : World} {env : Env} {e : Expr} {f : Str} {pos : Pos} {s : Shared} {Q : Value → Shared → Prop} (hb : attributeBase e f env (eval e env) = eval e env)
    (h : wpAny (model prog w) A (eval e env) (fun o s₁ => wpAny (model prog w) A (getAttr o f true) Q E s₁) E s) : wpAny (model prog w) A (eval (.Attribute e f pos) env) Q E s :=
  Attribute_any_ h (by rw [arm_eval_Attribute, hb])
end

/-! ### readings and rules -/
/-- e.f, an attribute of the instance -/
def tFld (K : PySem.W.Frag) (ta : TE) (f : Str) : TE := fun σ H Q => ta σ H fun x H1 => ∃ a C dx fs v, x = .ref a ∧ H1 a = some (.ins C dx fs) ∧ Cls K C ∧ NoAttr K C f ∧ fs.lookup f = some v ∧ Q v H1
/-- e.f, a constant of the class -/
def tCon (K : PySem.W.Frag) (ta : TE) (f : Str) : TE := fun σ H Q => ta σ H fun x H1 => ∃ a C dx fs v u, x = .ref a ∧ H1 a = some (.ins C dx fs) ∧ Cls K C ∧ Con K C f v u ∧ fs.lookup f = none ∧ Q v H1
/-- e.f = value -/
def sFld (K : PySem.W.Frag) (ta tv : TE) (f : Str) : TS := fun D σ H => tv σ H fun y H1 => ta σ H1 fun x H2 => ∃ a C dx fs, x = .ref a ∧ H2 a = some (.ins C dx fs) ∧ Cls K C ∧ NoAttr K C f ∧ fs.length < 1000 ∧
  D.nx σ (upd H2 a (.ins C dx (putF f y fs)))
/-- an augmented operator on two values -/
def InOp (X : Cx) (op : Operator) (rd : V → V → Hp → VK → Prop) : Prop :=
  ∀ (pins : List (Addr × Obj)) (s : Shared) (σ : St) (H : Hp) (x y : V) (u v : Value) (Q : VK), Inv X pins σ H s → RelV x u → RelV y v → rd x y H Q → wpAny (model X.prog X.w) X.A (inplaceOp op u v) (EP X pins σ Q) X.xe s
/-- e.f op= value -/
def sFldAug (K : PySem.W.Frag) (ta tv : TE) (rd : V → V → Hp → VK → Prop) (f : Str) : TS := fun D σ H => ta σ H fun x H1 => ∃ a C dx fs v, x = .ref a ∧ H1 a = some (.ins C dx fs) ∧ Cls K C ∧ NoAttr K C f ∧ fs.lookup f = some v ∧
  tv σ H1 fun y H2 => rd v y H2 fun z H3 => ∃ dx' fs', H3 a = some (.ins C dx' fs') ∧ fs'.length < 1000 ∧ D.nx σ (upd H3 a (.ins C dx' (putF f z fs')))

section
variable {X : Cx} {o e value : Expr} {f : Str} {pos pos' tpos : Pos} {ta tv : TE}
theorem pe_fld (he : PE X e ta) (hb : attributeBase e f X.env (eval e X.env) = eval e X.env) : PE X (.Attribute e f pos) (tFld X.K ta f) := by
  intro pins s σ H Q I h
  refine attr_of hb (thn (he pins s σ H _ I h) fun u s1 ⟨x, H1, I1, rx, a, C, dx, fs, v, ex, ea, c, n, l, q⟩ => ?_)
  subst ex
  obtain rfl : u = Value.ref a := rx
  exact getattr_ok I1 ea c n l fun u' s2 I2 ru => ⟨v, H1, I2, ru, q⟩
theorem ps_fld (ha : PE X o ta) (hv : PE X value tv) (hs : swapsWith value (some (.Attribute o f pos')) pos.line X.env = pure false) : PS X (.Assign [.Attribute o f pos'] value pos) (sFld X.K ta tv f) := by
  intro pins s σ H D I h
  refine plainObj_wpAny_Assign_Attribute (thn (hv pins s σ H _ I h) fun u s1 ⟨y, H1, I1, ry, q⟩ => thn (ha pins s1 σ H1 _ I1 q) fun ov s2 ⟨x, H2, I2, rx, a, C, dx, fs, ex, ea, c, n, l, q2⟩ => ?_) hs
  subst ex
  obtain rfl : ov = Value.ref a := rx
  exact setattr_ok I2 ea c n l ry fun s3 I3 => ⟨σ, _, I3, q2⟩
def rAdd : V → V → Hp → VK → Prop := fun x y H Q => ∃ i j, x = .int i ∧ y = .int j ∧ Q (.int (i + j)) H
def rSub : V → V → Hp → VK → Prop := fun x y H Q => ∃ i j, x = .int i ∧ y = .int j ∧ Q (.int (i - j)) H

/-- what is between an instance and its method: the tree of a method call -/
theorem methcall_of {pl : Sem Bool} {m : Str} {apos : Pos} {args : List Expr} {pins : List (Addr × Obj)} {s : Shared} {σ : St} {H : Hp} {Q : Value → Shared → Prop} {te : TE} (he : PE X e te) (I : Inv X pins σ H s)
    (h : te σ H fun x H1 => ∃ a C dx fs g, x = .ref a ∧ H1 a = some (.ins C dx fs) ∧ Cls X.K C ∧ Meth X.K C m g ∧ fs.lookup m = none ∧
      ∀ s1, Inv X pins σ H1 s1 → wpAny (model X.prog X.w) X.A (callWith pos (.ref g) [.ref a] (backTo pos (starEach args X.env)) (backToKw pos (keywordEach [] X.env))) Q X.xe s1)
    (ht : eval (.Call (.Attribute e m apos) args [] pos) X.env = (do
      let ov ← eval e X.env
      standAt apos.atName
      let (f, first) ← holding [ov] (getMethod ov m pl)
      callWith pos f first (backTo pos (starEach args X.env)) (backToKw pos (keywordEach [] X.env)))) :
    wpAny (model X.prog X.w) X.A (eval (.Call (.Attribute e m apos) args [] pos) X.env) Q X.xe s := by
  refine PySem.W.methodCall_KW (pl := pl) (thn (he pins s σ H _ I h) fun u s1 ⟨x, H1, I1, rx, a, C, dx, fs, g, ex, ea, c, k, l, q⟩ => ?_) ht
  subst ex
  obtain rfl : u = Value.ref a := rx
  exact getmeth_ok I1 ea c k l (q s1 I1)
end

/-! ### isinstance -/
section
variable {X : Cx} {pins : List (Addr × Obj)} {σ : St} {H : Hp} {s : Shared} {A : Around} {E : Value → Shared → Prop} {Q : Value → Shared → Prop} {c : Value} {b : Bool}
/-- the type of a value, as the fragment's deciders take it; for an instance its class -/
inductive TyOf (K : PySem.W.Frag) (H : Hp) : V → Value → Prop where
  | non : TyOf K H .non (.type "NoneType")
  | bl (x : Bool) : TyOf K H (.bl x) (.type "bool")
  | int (i : Int) : TyOf K H (.int i) (.type "int")
  | str (x : Str) : TyOf K H (.str x) (.type "str")
  | flt (x : UInt64) : TyOf K H (.flt x) (.type "float")
  | lst {a : Addr} {xs : List V} (e : H a = some (.lst xs)) : TyOf K H (.ref a) (.type "list")
  | frz {a : Addr} {o : Obj} {xs : List V} (e : H a = some (.frz o (.lst xs))) : TyOf K H (.ref a) (.type "list")
  | tup {a : Addr} {xs : List V} (e : H a = some (.tup xs)) : TyOf K H (.ref a) (.type "tuple")
  | dK {a : Addr} {kvs : List (Key × V)} (e : H a = some (.dK kvs)) : TyOf K H (.ref a) (.type "dict")
  | dT {a : Addr} {kvs : List (List Key × V)} (e : H a = some (.dT kvs)) : TyOf K H (.ref a) (.type "dict")
  | ins {a C dx : Addr} {fs : List (Str × V)} (e : H a = some (.ins C dx fs)) (cl : Cls K C) (ha : PySem.W.findIn K (.ref C) "__class__" = some (some (.builtin "object.__class__")))
      (hn : PySem.W.specialIn K (.builtin "object.__class__") "__get__" = some (some (.builtin "getset_descriptor.__get__"))) (htk : PySem.W.takesIn K (.builtin "object.__class__") = some true)
      (hm : PySem.W.mroIn K C (.type "object") = some true) : TyOf K H (.ref a) (.ref C)
/-- isinstance(x, c) for one class c, a built-in or an own one: kitOne's answer -/
theorem isinst_ok {x : V} {u t : Value} (I : Inv X pins σ H s) (rx : RelV x u) (ty : TyOf X.K H x t) (e : PySem.W.kitOne X.K t c = some b) (h : ∀ tk, Q (.bool b) { s with toks := tk }) :
    wpAny (model X.prog X.w) A (call (.builtin "isinstance") [u, c]) Q E s := by
  cases ty with
  | non => cases (show u = Value.none from rx); exact PySem.W.kia_one PySem.W.kitx_none I.kIn True.intro e (fun z => nomatch z) h
  | bl y => cases (show u = Value.bool y from rx); exact PySem.W.kia_one PySem.W.kitx_bool I.kIn True.intro e (fun z => nomatch z) h
  | int i => obtain ⟨t, q⟩ := (show ∃ t, u = Value.int i t from rx); cases q; exact PySem.W.kia_one PySem.W.kitx_int I.kIn True.intro e (fun z => nomatch z) h
  | str y => obtain ⟨t, q⟩ := (show ∃ t, u = Value.str y t from rx); cases q; exact PySem.W.kia_one PySem.W.kitx_str I.kIn True.intro e (fun z => nomatch z) h
  | flt y => obtain ⟨t, q⟩ := (show ∃ t, u = Value.float y t from rx); cases q; exact PySem.W.kia_one PySem.W.kitx_float I.kIn True.intro e (fun z => nomatch z) h
  | @lst a xs ea =>
    cases (show u = Value.ref a from rx)
    obtain ⟨_, _, n, _, h1⟩ := (show ObjOk X.prog X.w H s.heap a (.lst xs) from I.hok a _ ea)
    exact PySem.W.kia_one PySem.W.kitx_list I.kIn ⟨_, h1, rfl⟩ e (fun z => nomatch z) h
  | @frz a ob xs ea =>
    cases (show u = Value.ref a from rx)
    obtain ⟨_, _, _, n, _, h1⟩ := (show ObjOk X.prog X.w H s.heap a (.frz ob (.lst xs)) from I.hok a _ ea)
    exact PySem.W.kia_one PySem.W.kitx_list I.kIn ⟨_, h1, rfl⟩ e (fun z => nomatch z) h
  | @tup a xs ea =>
    cases (show u = Value.ref a from rx)
    obtain ⟨_, _, _, p⟩ := (show ObjOk X.prog X.w H s.heap a (.tup xs) from I.hok a _ ea)
    obtain ⟨o, h1, h2, _⟩ := p
    exact PySem.W.kia_one PySem.W.kitx_tuple I.kIn ⟨o, h1, h2⟩ e (fun z => nomatch z) h
  | @dK a kvs ea =>
    cases (show u = Value.ref a from rx)
    obtain ⟨_, _, vs, _, p⟩ := (show ObjOk X.prog X.w H s.heap a (.dK kvs) from I.hok a _ ea)
    obtain ⟨o, es, ep, h1, h2, _⟩ := p
    exact PySem.W.kia_one PySem.W.kitx_dict I.kIn ⟨o, h1, h2.1⟩ e (fun z => nomatch z) h
  | @dT a kvs ea =>
    cases (show u = Value.ref a from rx)
    obtain ⟨_, _, xs, _, o, es, ep, h1, h2, _⟩ := (show ObjOk X.prog X.w H s.heap a (.dT kvs) from I.hok a _ ea)
    exact PySem.W.kia_one PySem.W.kitx_dict I.kIn ⟨o, h1, h2.1⟩ e (fun z => nomatch z) h
  | @ins a C dx fs ea cl ha hn htk hm =>
    cases (show u = Value.ref a from rx)
    obtain ⟨mA, O, _⟩ := ins_get I.hok ea
    obtain ⟨od, J, _⟩ := O.look
    exact PySem.W.kia_one (PySem.W.kitx_own (cl.get _) cl.hd ha hn htk hm) I.kIn J e (fun z => nomatch z) h
end
end L2

namespace L2
open PySem PySem.Spec PyProof.Rows

/-! ### room -/
structure Room (k : Nat) (A : Around) : Prop where
  hd : A.handled = none
  dp : A.depth + 3 * k + 5 < recursionLimit
  un : A.units + 16 * k + 200 < cLine
theorem Room.mono {j k : Nat} {A : Around} (r : Room k A) (h : j ≤ k) : Room j A := ⟨r.hd, by have := r.dp; omega, by have := r.un; omega⟩
theorem Room.deeper {k : Nat} {A : Around} (r : Room (k + 1) A) (env : Env) : Room k (A.deeper env) :=
  ⟨r.hd, by have := r.dp; show A.depth + 1 + 3 * k + 5 < _; omega, by have := r.un; show A.units + 3 + 16 * k + 200 < _; omega⟩
theorem Room.in1 {k : Nat} {A : Around} (r : Room (k + 1) A) : Room k A.in1 :=
  ⟨r.hd, by have := r.dp; show A.depth + 3 * k + 5 < _; omega, by have := r.un; show A.units + 1 + 16 * k + 200 < _; omega⟩
theorem make_depth {A : Around} {C : Addr} {us : List Value} {kw : List (Str × Value)} : (A.under (.builtin "type.__call__" ⟨.ref C :: us, kw⟩)).depth = A.depth + 1 := by
  first | rfl | simp [Around.under, Code.weight, Code.isCreation, Code.isGuard, Code.isCaller, Code.frames, Code.isFrame, guardIds]
theorem make_units {A : Around} {C : Addr} {us : List Value} {kw : List (Str × Value)} : (A.under (.builtin "type.__call__" ⟨.ref C :: us, kw⟩)).units = A.units + 1 := by
  first | rfl | simp [Around.under, Code.cUnits, Code.frames, Code.isFrame]
theorem Room.make {k : Nat} {A : Around} (r : Room (k + 1) A) (C : Addr) (us : List Value) (kw : List (Str × Value)) : Room k (A.under (.builtin "type.__call__" ⟨.ref C :: us, kw⟩)) :=
  ⟨r.hd, by have := r.dp; rw [make_depth]; omega, by have := r.un; rw [make_units]; omega⟩
theorem Room.depth {k : Nat} {A : Around} (r : Room k A) : A.depth < recursionLimit := by have := r.dp; omega
theorem Room.units {k : Nat} {A : Around} (r : Room k A) : A.units + 64 < cLine := by have := r.un; omega
theorem Room.units0 {k : Nat} {A : Around} (r : Room k A) : A.units < cLine := by have := r.un; omega

/-! ### argument lists and displays -/
def tNil : TA := fun _ H Q => Q [] H
def tCons (ta : TE) (tr : TA) : TA := fun σ H Q => ta σ H fun x H1 => tr σ H1 fun xs H2 => Q (x :: xs) H2
section
variable {X : Cx} {e : Expr} {es : List Expr} {te : TE} {t : TA} {pos : Pos}
theorem pa_nil : PA X [] tNil := fun _ _ _ _ H Q I h => Calls.spliced_nil ⟨[], H, I, .nil, h⟩
theorem pa_cons (ha : PE X e te) (hr : PA X es t) (hs : starEach (e :: es) X.env = (false, eval e X.env) :: starEach es X.env := by rfl) : PA X (e :: es) (tCons te t) := by
  intro pos pins s σ H Q I h
  rw [hs]
  show wpAny _ _ (spliced ((false, eval e X.env) :: backTo pos (starEach es X.env))) _ _ s
  refine Calls.spliced_cons (thn (ha pins s σ H _ I h) fun u s1 ⟨x, H1, I1, r1, q1⟩ => ?_)
  exact thn (hr pos pins s1 σ H1 _ I1 q1) fun us s2 ⟨xs, H2, I2, r2, q2⟩ => ⟨x :: xs, H2, I2, .cons r1 r2, q2⟩

/-- a tuple, a list of written items -/
def tTup (t : TA) : TE := fun σ H Q => t σ H fun xs H1 => xs.length ≤ sizeLine ∧ ∀ p, H1 p = none → Q (.ref p) (upd H1 p (.tup xs))
def tLst (t : TA) : TE := fun σ H Q => t σ H fun xs H1 => xs.length ≤ sizeLine ∧ ∀ p, H1 p = none → Q (.ref p) (upd H1 p (.lst xs))
theorem pe_tup {x1} (h : PA X es t) : PE X (.Tuple es x1 pos) (tTup t) := by
  intro pins s σ H Q I hq
  refine wpAny_Tuple_spliced (thn (h pos pins s σ H _ I hq) fun us s1 ⟨xs, H1, I1, r, z, q⟩ => ⟨by rw [← r.length]; exact z, ?_⟩)
  have hf : H1 s1.heap.objs.size = none := I1.hok.fresh (Nat.le_refl _)
  refine ⟨.ref s1.heap.objs.size, upd H1 s1.heap.objs.size (.tup xs), I1.laid (t' := s1.toks) (fun b u e => Heap.get?_push_of_some _ e) (Nat.le_refl _) ?_, rfl, q _ hf⟩
  exact ⟨z, us, r, ⟨_, Heap.get?_push_size _ rfl, rfl, _, rfl⟩⟩
theorem pe_lst (h : PA X es t) : PE X (.List es pos) (tLst t) := by
  intro pins s σ H Q I hq
  refine wpAny_List_spliced (thn (h pos pins s σ H _ I hq) fun us s1 ⟨xs, H1, I1, r, z, q⟩ => ⟨by rw [← r.length]; exact z, ?_⟩)
  have hf : H1 s1.heap.objs.size = none := I1.hok.fresh (Nat.le_refl _)
  refine ⟨.ref s1.heap.objs.size, upd H1 s1.heap.objs.size (.lst xs), I1.laid (t' := s1.toks) (fun b u e => Heap.get?_push_of_some _ e) (Nat.le_refl _) ?_, rfl, q _ hf⟩
  exact ⟨z, us, 0, r, Heap.get?_push_size _ rfl⟩
end

/-! ### what a def promises -/
/-- a def's promise: the bound arguments in the parameters' order, the heap, the wanted end, the wanted exception -/
abbrev Sp := List V → Hp → VK → XK → Prop
/-- how an exception lies behind a call (file 08 gives it): the callers' frames, abstract heap and state ahead of the call, the wish, the exception, the state -/
abbrev CXT := List Env → Hp → Shared → XK → Value → Shared → Prop

/-- the state at a call -/
structure Env0 (P : Program) (w : World) (K : PySem.W.Frag) (mg : Str → Option Value) (base : Heap) (A : Around) (outer : List Env) (s : Shared) (H : Hp) : Prop where
  frames : A.frames = some outer
  mod : Mod K mg base
  bs : ∀ b o, base.get? b = some o → s.heap.get? b = some o ∧ H b = none
  bsz : base.objs.size ≤ s.heap.objs.size
  funs : s.heap.FunFrames base outer
  frf : ∀ b ∈ frs outer, H b = none
  hok : HOk P w H s.heap
  bare : AllBare s.gens
/-- a call's end -/
def CE (outer : List Env) (P : Program) (w : World) (H : Hp) (s : Shared) (Q : VK) (u : Value) (s' : Shared) : Prop :=
  ∃ v H', s'.os = s.os ∧ AllBare s'.gens ∧ Un (frs outer) [] H H' s.heap s'.heap ∧ HOk P w H' s'.heap ∧ RelV v u ∧ Q v H'
def CR (CX : CXT) (outer : List Env) (P : Program) (w : World) (H : Hp) (s : Shared) (Q : VK) (E : XK) (r : Result) (s' : Shared) : Prop :=
  match r with
  | .ok (.ret u) => CE outer P w H s Q u s'
  | .ok _ => False
  | .error e => CX outer H s E e s'
structure FnOk (P : Program) (w : World) (K : PySem.W.Frag) (mg : Str → Option Value) (base : Heap) (CX : CXT) (k : Nat) (f : Addr) (fd : FuncData) (ps : List Str) (sp : Sp) : Prop where
  len : ∀ vs H Q E, sp vs H Q E → vs.length = ps.length
  run : ∀ (A : Around) (outer : List Env) (s : Shared) (H : Hp) (args : Args) (us : List Value) (vs : List V) (Q : VK) (E : XK), Room k A → Env0 P w K mg base A outer s H → BindsTo s fd args (ps.zip us) → Vals vs us → sp vs H Q E →
    codeAny (model P w) A (.call (.ref f) args) (CR CX outer P w H s Q E) s
theorem FnOk.mono {P : Program} {w : World} {K : PySem.W.Frag} {mg : Str → Option Value} {base : Heap} {CX : CXT} {j k : Nat} {f : Addr} {fd : FuncData} {ps : List Str} {sp : Sp} (F : FnOk P w K mg base CX j f fd ps sp) (h : j ≤ k) :
    FnOk P w K mg base CX k f fd ps sp := ⟨F.len, fun A outer s H args us vs Q E hr => F.run A outer s H args us vs Q E (hr.mono h)⟩
/-- a weaker promise -/
theorem FnOk.imp {P : Program} {w : World} {K : PySem.W.Frag} {mg : Str → Option Value} {base : Heap} {CX : CXT} {k : Nat} {f : Addr} {fd : FuncData} {ps : List Str} {sp sp' : Sp} (F : FnOk P w K mg base CX k f fd ps sp)
    (h : ∀ vs H Q E, sp' vs H Q E → sp vs H Q E) : FnOk P w K mg base CX k f fd ps sp' :=
  ⟨fun vs H Q E q => F.len vs H Q E (h _ _ _ _ q), fun A outer s H args us vs Q E hr he hb hv hs => F.run A outer s H args us vs Q E hr he hb hv (h _ _ _ _ hs)⟩

theorem Env0.make {P : Program} {w : World} {K : PySem.W.Frag} {mg : Str → Option Value} {base : Heap} {A : Around} {outer : List Env} {s : Shared} {H : Hp} (e : Env0 P w K mg base A outer s H) (C : Addr) (us : List Value) (kw : List (Str × Value)) :
    Env0 P w K mg base (A.under (.builtin "type.__call__" ⟨.ref C :: us, kw⟩)) outer s H := ⟨by first | exact e.frames | (simpa [Around.under, Code.envs, Code.isFrame, pushEnvs] using e.frames), e.mod, e.bs, e.bsz, e.funs, e.frf, e.hok, e.bare⟩
theorem Env0.in1 {P : Program} {w : World} {K : PySem.W.Frag} {mg : Str → Option Value} {base : Heap} {A : Around} {outer : List Env} {s : Shared} {H : Hp} (e : Env0 P w K mg base A outer s H) :
    Env0 P w K mg base A.in1 outer s H := ⟨e.frames, e.mod, e.bs, e.bsz, e.funs, e.frf, e.hok, e.bare⟩

section
variable {X : Cx} {pins : List (Addr × Obj)} {σ : St} {H : Hp} {s s' : Shared}
/-- from a body: what a callee wants -/
theorem Inv.env0 (I : Inv X pins σ H s) : Env0 X.prog X.w X.K X.mg X.base X.A X.stack s H :=
  ⟨I.ok.frames, I.ok.mod, I.bs, Nat.le_trans I.ok.bsz I.sz, I.stack, I.stkFree, I.hok, I.bare⟩
/-- behind a call -/
theorem Inv.after {Q : VK} {u : Value} (I : Inv X pins σ H s) (h : CE X.stack X.prog X.w H s Q u s') : EP X pins σ Q u s' := by
  obtain ⟨v, H', os, bare, un, hok, r, q⟩ := h
  obtain ⟨hh, g, d, t, os'⟩ := s'
  obtain rfl : os' = s.os := os
  exact ⟨v, H', I.call (h' := hh) (g' := g) (d' := d) (t' := t) (ch := []) un hok bare (fun b z => absurd z (by simp)), r, q⟩
end

/-! ### calls -/
/-- f(..): the written arguments, then the defaults dvs; E: what is wanted of an exception -/
def tCall (sp : Sp) (dvs : List V) (E : XK) (t : TA) : TE := fun σ H Q => t σ H fun vs H1 => sp (vs ++ dvs) H1 Q E
/-- o.m(..) of an instance of the class at C -/
def tMeth (C : Addr) (m : Str) (sp : Sp) (dvs : List V) (E : XK) (ta : TE) (t : TA) : TE := fun σ H Q => ta σ H fun x H1 => ∃ a dx fs, x = .ref a ∧ H1 a = some (.ins C dx fs) ∧ fs.lookup m = none ∧
  t σ H1 fun vs H2 => sp (x :: (vs ++ dvs)) H2 Q E
/-- C(..): a new instance and its dict, then __init__ -/
def tMake (C : Addr) (sp : Sp) (dvs : List V) (E : XK) (t : TA) : TE := fun σ H Q => t σ H fun vs H1 => ∀ x dx, H1 x = none → H1 dx = none → dx ≠ x →
  sp (.ref x :: (vs ++ dvs)) (upd (upd H1 dx (.own x)) x (.ins C dx [])) (fun v H2 => v = .non ∧ Q (.ref x) H2) E

/-- how the parameters are bound: us the positional arguments, kw the keywords' values by name, ds the defaults that fill up -/
def Binds (K : PySem.W.Frag) (fd : FuncData) (ps : List Str) (ds : List Value) : Prop :=
  ∀ (s : Shared) (us : List Value), K.In s.heap → (us ++ ds).length = ps.length → BindsTo s fd ⟨us, []⟩ (ps.zip (us ++ ds))
/-- every parameter is given -/
theorem Binds.all {K : PySem.W.Frag} {fd : FuncData} {ps : List Str} (h : ∀ us : List Value, us.length = ps.length → bindArgs fd ⟨us, []⟩ = pure (ps.zip us)) : Binds K fd ps [] := fun s us _ hl => by
  rw [List.append_nil] at hl ⊢
  exact .of_eq (h us hl)

/-- an exception of a callee reaches what this body wants of exceptions -/
def Passes (CX : CXT) (X : Cx) (E : XK) : Prop := ∀ (pins : List (Addr × Obj)) (σ : St) (H : Hp) (s : Shared) (e : Value) (s' : Shared), Inv X pins σ H s → CX X.stack H s E e s' → X.xe e s'

section
variable {X : Cx} {CX : CXT} {k : Nat} {f C : Addr} {fd : FuncData} {ps : List Str} {sp : Sp} {dvs : List V} {ds : List Value} {E : XK} {x m : Str} {p pos apos : Pos} {e o : Expr} {es : List Expr} {ta : TE} {t : TA}

/-- the callee runs -/
theorem run_fn {pins : List (Addr × Obj)} {σ : St} {H : Hp} {s : Shared} {Q : VK} {us : List Value} {vs : List V} (F : FnOk X.prog X.w X.K X.mg X.base CX k f fd ps sp) (hr : Room k X.A) (hb : Binds X.K fd ps ds) (hd : Vals dvs ds) (hx : Passes CX X E)
    (I : Inv X pins σ H s) (r : Vals vs us) (h : sp (vs ++ dvs) H Q E) : wpAny (model X.prog X.w) X.A (call (.ref f) us) (EP X pins σ Q) X.xe s := by
  have r2 : Vals (vs ++ dvs) (us ++ ds) := r.append hd
  have hl : (us ++ ds).length = ps.length := by rw [← r2.length]; exact F.len _ _ _ _ h
  refine wpAny_call (codeAny_mono (F.run X.A X.stack s H ⟨us, []⟩ (us ++ ds) (vs ++ dvs) Q E hr I.env0 (hb s us I.kIn hl) r2 h) fun r s' hq => ?_)
  cases r with
  | error e => exact hx pins σ H s e s' I hq
  | ok fl =>
    cases fl with
    | ret u => exact I.after hq
    | next => exact False.elim hq
    | brk => exact False.elim hq
    | cont => exact False.elim hq

theorem pe_call (F : FnOk X.prog X.w X.K X.mg X.base CX k f fd ps sp) (hr : Room k X.A) (hg : Gl X x) (hm : X.mg x = some (.ref f)) (hk : PySem.W.keepIn X.K (.ref f) = true) (hb : Binds X.K fd ps ds) (hd : Vals dvs ds) (hx : Passes CX X E)
    (ha : PA X (e :: es) t) (hdb : (x == ("__debug__" : Str)) = false := by decide) (he : starEach (e :: es) X.env = (false, eval e X.env) :: starEach es X.env := by rfl) (hpl : (backTo pos (starEach es X.env)).any (·.1) = false := by rfl) :
    PE X (.Call (.Name x p) (e :: es) [] pos) (tCall sp dvs E t) := by
  intro pins s σ H Q I h
  refine wpAny_Call_Name_kw (ld_glob I hg hm ?_ hdb)
  refine PySem.W.callWith_K (h₀ := X.base) I.ok.mod.kin hk (thn (ha pos pins s σ H _ I h) fun us s1 ⟨vs, H1, I1, r, q⟩ => ⟨I1.kIn, ?_⟩) he hpl
  exact run_fn F hr hb hd hx I1 r q

/-- o.m() -/
theorem pe_meth0 {pl : Sem Bool} (he : PE X o ta) (c : Cls X.K C) (hm : Meth X.K C m f) (F : FnOk X.prog X.w X.K X.mg X.base CX k f fd ps sp) (hr : Room k X.A) (hb : Binds X.K fd ps ds) (hd : Vals dvs ds) (hx : Passes CX X E)
    (ht : eval (.Call (.Attribute o m apos) [] [] pos) X.env = (do
      let ov ← eval o X.env
      standAt apos.atName
      let (f, first) ← holding [ov] (getMethod ov m pl)
      callWith pos f first (backTo pos (starEach [] X.env)) (backToKw pos (keywordEach [] X.env))) := by rfl) :
    PE X (.Call (.Attribute o m apos) [] [] pos) (tMeth C m sp dvs E ta tNil) := by
  intro pins s σ H Q I h
  refine PySem.W.methodCall_KW (pl := pl) (thn (he pins s σ H _ I h) fun u s1 ⟨x, H1, I1, rx, a, dx, fs, ex, ea, l, q⟩ => ?_) ht
  subst ex
  obtain rfl : u = Value.ref a := rx
  refine getmeth_ok I1 ea c hm l ?_
  exact PySem.W.callWith_K0 (first := [.ref a]) I1.kIn hm.kp (run_fn (us := [.ref a]) (vs := [.ref a]) F hr hb hd hx I1 (.cons rfl .nil) q)

/-- what a class must have to be made -/
structure Mk (K : PySem.W.Frag) (C f : Addr) : Prop where
  makes : PySem.W.makesIn K C = true
  init : PySem.W.findIn K (.ref C) "__init__" = some (some (.ref f))
  fn : PySem.W.isFn K (.ref f) = true
  kp : PySem.W.keepIn K (.ref C) = true

end

/-! ### keywords -/
/-- the values of the keywords, from the left -/
def PK (X : Cx) (kws : List Keyword) (t : TA) : Prop :=
  ∀ (pos : Pos) (pins : List (Addr × Obj)) (s : Shared) (σ : St) (H : Hp) (Q : List V → Hp → Prop), Inv X pins σ H s → t σ H Q → wpAny (model X.prog X.w) X.A (evalAll ((backToKw pos (keywordEach kws X.env)).map (·.2))) (AP X pins σ Q) X.xe s
section
variable {X : Cx} {CX : CXT} {k : Nat} {f C : Addr} {fd : FuncData} {ps ks : List Str} {sp : Sp} {E : XK} {x m : Str} {p pos apos kpos : Pos} {e o : Expr} {es : List Expr} {kws : List Keyword} {te ta : TE} {t tk : TA} {nm : Option Str}

/-- how a call with keywords binds: g puts the positional values us and the keywords' values ws (names ks) in the parameters' order, defaults among them -/
structure KBinds (K : PySem.W.Frag) (fd : FuncData) (ps ks : List Str) (g : List Value → List Value → List Value) (gV : List V → List V → List V) : Prop where
  to : ∀ (s : Shared) (us ws : List Value), K.In s.heap → (g us ws).length = ps.length → BindsTo s fd ⟨us, ks.zip ws⟩ (ps.zip (g us ws))
  rel : ∀ {vs : List V} {us : List Value} {zs : List V} {ws : List Value}, Vals vs us → Vals zs ws → Vals (gV vs zs) (g us ws)
def tCallK (sp : Sp) (gV : List V → List V → List V) (E : XK) (t tk : TA) : TE := fun σ H Q => t σ H fun vs H1 => tk σ H1 fun zs H2 => sp (gV vs zs) H2 Q E
variable {g : List Value → List Value → List Value} {gV : List V → List V → List V}
end

/-! ### a def's body keeps its promise -/
/-- names: the parameters first -/
structure FnScope (N P : List Str) (sc : Scope) : Prop where
  kind : sc.kind = .function
  co : sc.isCoroutine = false
  gen : sc.isGenerator = false
  nd : N.Nodup
  pre : N.take P.length = P
  par : ∀ x ∈ P, sc.names.lookup x = some .local ∨ sc.names.lookup x = some .cell
  nofree : ∀ y ∈ sc.names, y.2 ≠ .free

theorem bindL_out {kindOf : Str → Option NameKind} {x : Str} : ∀ {binds : List (Str × Value)} {m : Str → Option Value}, (∀ v, (x, v) ∉ binds) → bindL kindOf binds m x = m x
  | [], _, _ => rfl
  | (n, v) :: r, m, h => by
    unfold bindL
    rw [bindL_out fun w hw => h w (List.mem_cons_of_mem _ hw)]
    split
    · have : x ≠ n := by rintro rfl; exact h v List.mem_cons_self
      simp [this]
    · rfl
theorem bindC_out {kindOf : Str → Option NameKind} {x : Str} : ∀ {binds : List (Str × Value)} {m : Str → Option Value}, (∀ v, (x, v) ∉ binds) → bindC kindOf binds m x = m x
  | [], _, _ => rfl
  | (n, v) :: r, m, h => by
    unfold bindC
    rw [bindC_out fun w hw => h w (List.mem_cons_of_mem _ hw)]
    split
    · rfl
    · have : x ≠ n := by rintro rfl; exact h v List.mem_cons_self
      simp [this]
theorem bindL_get {kindOf : Str → Option NameKind} {x : Str} {v : Value} : ∀ {P : List Str} {vs : List Value} {i : Nat} {m : Str → Option Value}, P.Nodup → P[i]? = some x → vs[i]? = some v → kindOf x = some .local →
    bindL kindOf (P.zip vs) m x = some v
  | [], _, _, _, _, h, _, _ => by simp at h
  | _ :: _, [], _, _, _, _, h, _ => by simp at h
  | p :: P, w :: vs, 0, m, nd, h1, h2, hk => by
    simp at h1 h2; subst h1; subst h2
    show bindL kindOf ((p, w) :: P.zip vs) m p = _
    unfold bindL
    rw [bindL_out fun v hv => (List.nodup_cons.mp nd).1 (List.of_mem_zip hv).1, if_pos hk]
    simp
  | p :: P, w :: vs, i + 1, m, nd, h1, h2, hk => by
    show bindL kindOf ((p, w) :: P.zip vs) m x = _
    unfold bindL
    exact bindL_get (i := i) (List.nodup_cons.mp nd).2 (by simpa using h1) (by simpa using h2) hk
theorem bindC_get {kindOf : Str → Option NameKind} {x : Str} {v : Value} : ∀ {P : List Str} {vs : List Value} {i : Nat} {m : Str → Option Value}, P.Nodup → P[i]? = some x → vs[i]? = some v → kindOf x ≠ some .local →
    bindC kindOf (P.zip vs) m x = some v
  | [], _, _, _, _, h, _, _ => by simp at h
  | _ :: _, [], _, _, _, _, h, _ => by simp at h
  | p :: P, w :: vs, 0, m, nd, h1, h2, hk => by
    simp at h1 h2; subst h1; subst h2
    show bindC kindOf ((p, w) :: P.zip vs) m p = _
    unfold bindC
    rw [bindC_out fun v hv => (List.nodup_cons.mp nd).1 (List.of_mem_zip hv).1, if_neg hk]
    simp
  | p :: P, w :: vs, i + 1, m, nd, h1, h2, hk => by
    show bindC kindOf ((p, w) :: P.zip vs) m x = _
    unfold bindC
    exact bindC_get (i := i) (List.nodup_cons.mp nd).2 (by simpa using h1) (by simpa using h2) hk

/-- the names' values at the entry -/
def start (N : List Str) (vs : List V) : St := vs.map some ++ List.replicate (N.length - vs.length) none

/-- the context of a def's body, at its entry; an exception leaves the frame, then lies as CX says -/
def cxOf (CX : CXT) (P : Program) (w : World) (K : PySem.W.Frag) (mg : Str → Option Value) (base : Heap) (N : List Str) (qual : Str) (scope : Scope) (f : Addr) (cd : Value) (A : Around) (outer : List Env) (s : Shared) (H : Hp) (E : XK) : Cx where
  prog := P
  w := w
  K := K
  mg := mg
  base := base
  A := A.deeper (envOfC qual scope s.heap.objs.size f cd)
  N := N
  s₀ := s
  H₀ := H
  env := envOfC qual scope s.heap.objs.size f cd
  outer := outer
  stack := envOfC qual scope s.heap.objs.size f cd :: outer
  ex := []
  calm := true
  fn := fun _ => true
  pn := []
  xe := fun e s' => wpAny (model P w) (A.deeper (envOfC qual scope s.heap.objs.size f cd)) («leaving» (envOfC qual scope s.heap.objs.size f cd) e) (fun _ s'' => CX outer H s E e s'') (fun e' s'' => CX outer H s E e' s'') s'

theorem cell_has {sc : Scope} {n : Nat} {x : Str} (h : sc.names.lookup x = some .cell) : ∃ c, (cellsFrom n sc.names []).lookup x = some c := by
  have q := PySem.W.cellsFrom_some sc.names n [] (.inl h)
  exact Option.isSome_iff_exists.mp q

theorem inv_start {CX : CXT} {P : Program} {w : World} {K : PySem.W.Frag} {mg : Str → Option Value} {base : Heap} {N ps : List Str} {qual : Str} {scope : Scope} {f : Addr} {cd : Value} {A : Around} {outer : List Env} {s s1 : Shared} {H : Hp} {E : XK} {us : List Value} {vs : List V}
    (S : FnScope N ps scope) (hd : A.handled = none) (e0 : Env0 P w K mg base A outer s H) (hl : vs.length = ps.length) (r : Vals vs us)
    (x : InCallC s s.heap.objs.size (bindL (envOfC qual scope s.heap.objs.size f cd).kindOf (ps.zip us) fun _ => none) (cellsFrom (s.heap.objs.size + 1) scope.names []) (bindC (envOfC qual scope s.heap.objs.size f cd).kindOf (ps.zip us) fun _ => none) s1) :
    Inv (cxOf CX P w K mg base N qual scope f cd A outer s H E) [] (start N vs) H s1 := by
  have hpl : ps.length ≤ N.length := by have := congrArg List.length S.pre; rw [List.length_take] at this; omega
  obtain ⟨h1, tk, rfl, hk⟩ := x.done
  have noA : ∀ b : Addr, b ∉ (cxOf CX P w K mg base N qual scope f cd A outer s H E).ex := fun b z => absurd (show b ∈ ([] : List Addr) from z) (by simp)
  refine ⟨⟨e0.mod, S.kind, rfl, rfl, Nat.le_refl _, fun y z c h1 h2 => ?_, fun y hy => ?_, fun y c _ h => ?_, fun _ => hd, Around.frames_deeper e0.frames, .inr ⟨rfl, rfl⟩, fun b z => absurd z (noA b), e0.bs, e0.bsz, fun b _ _ => noA b, fun b z => absurd z (noA b), e0.funs, e0.frf⟩,
    rfl, e0.bare, Un.kept hk, ⟨_, x.toInCall.ns, fun i y v h1 h2 h3 => ?_⟩, fun y c h => ⟨_, x.cell y c h⟩, e0.hok.fresh (Nat.le_refl _), fun y c h => ?_, fun p hp => absurd (show p ∈ ([] : List (Addr × Obj)) from hp) (by simp), e0.hok.kept hk, ?_⟩
  · exact name_of_addr x.apart (PySem.mem_of_lookup h1) (PySem.mem_of_lookup h2)
  · have hy : scope.names.lookup y = some .cell ∨ scope.names.lookup y = some .free := hy
    rcases hy with hy | hy
    · exact cell_has hy
    · exact absurd rfl (S.nofree _ (PySem.mem_of_lookup hy))
  · exact Nat.le_of_lt (x.above y c (PySem.mem_of_lookup h))
  · have hi : i < vs.length := by
      unfold start at h2
      by_cases hi : i < vs.length
      · exact hi
      · rw [List.getElem?_append_right (by simpa using hi)] at h2
        rw [List.getElem?_replicate] at h2
        split at h2 <;> cases h2
    have ha : vs[i]? = some v := by
      unfold start at h2
      rw [List.getElem?_append_left (by simpa using hi), List.getElem?_map] at h2
      cases e : vs[i]? with
      | none => rw [e] at h2; cases h2
      | some a => rw [e] at h2; cases h2; rfl
    obtain ⟨u, hu, rv⟩ := r.get ha
    have hp : ps[i]? = some y := by
      rw [← S.pre, List.getElem?_take_of_lt (by omega)]; exact h1
    have ndP : ps.Nodup := by rw [← S.pre]; exact S.nd.sublist (List.take_sublist _ _)
    refine ⟨u, rv, ?_⟩
    rcases S.par y (List.mem_of_getElem? hp) with k | k
    · exact .inl ⟨k, bindL_get ndP hp hu k⟩
    · obtain ⟨c, e⟩ := cell_has (n := s.heap.objs.size + 1) k
      refine .inr ⟨.inl k, c, e, ?_⟩
      have q := x.cell y c e
      rw [bindC_get ndP hp hu (by show scope.names.lookup y ≠ _; rw [k]; decide)] at q
      exact q
  · exact e0.hok.fresh (Nat.le_of_lt (x.above y c (PySem.mem_of_lookup h)))
  · unfold start
    show _ = N.length
    rw [List.length_append, List.length_map, List.length_replicate]
    omega

/-- THE RULE: a def (or a method) of the text, by its body. The body's reading t is chosen for each entry; it is run at the parameters' values -/
theorem fn_of {CX : CXT} {P : Program} {w : World} {K : PySem.W.Frag} {mg : Str → Option Value} {base : Heap} {k : Nat} {f : Addr} {name qual : Str} {params : Arguments} {body : List Stmt} {scope : Scope} {dV kV doc pm cdv ct oc : Value} {an od : Option Addr}
    {osl : Array (Option Value)} {N ps : List Str} {sp : Sp} (lk : K.lookup f = some ⟨oc, od, .func (PySem.W.fnOf name qual params body scope dV kV doc pm an cdv ct), osl⟩) (hcd : PySem.W.codeIn K cdv qual = true) (S : FnScope N ps scope)
    (len : ∀ vs H Q E, sp vs H Q E → vs.length = ps.length)
    (hbody : ∀ (A : Around) (outer : List Env) (s : Shared) (H : Hp) (vs : List V) (Q : VK) (E : XK), Room k (A.deeper (envOfC qual scope s.heap.objs.size f cdv)) → sp vs H Q E →
      ∃ t, PSs (cxOf CX P w K mg base N qual scope f cdv A outer s H E) body t ∧ t { nx := fun _ H' => Q .non H', rt := Q } (start N vs) H) :
    FnOk P w K mg base CX (k + 1) f (PySem.W.fnOf name qual params body scope dV kV doc pm an cdv ct) ps sp := by
  refine ⟨len, fun A outer s H args us vs Q E hr e0 hb r hsp => ?_⟩
  have hl := len _ _ _ _ hsp
  have KX : K.In s.heap := e0.mod.kin.keeps fun b o e => (e0.bs b o e).1
  have lim : s.heap.NoLimit := e0.mod.nolimit.keeps fun b o e => (e0.bs b o e).1
  have hkind : ∀ y ∈ ps.zip us, scope.names.lookup y.1 = some .local ∨ (scope.names.lookup y.1 = some .cell ∧ ((cellsFrom (s.heap.objs.size + 1) scope.names []).lookup y.1).isSome = true) := fun ⟨n, v⟩ hy => by
    rcases S.par n (List.of_mem_zip hy).1 with q | q
    · exact .inl q
    · exact .inr ⟨q, PySem.W.cellsFrom_some _ _ _ (.inl q)⟩
  refine codeAny_call_function hr.depth (KX _ _ lk) rfl S.co S.gen rfl (PySem.W.codeRec_of KX hcd) (hb _ _ _ _ ?_)
  refine wpAny_newFunctionEnv_cells S.kind hkind fun env he s1 x => ?_
  subst he
  refine ⟨lim.keeps x.toInCall.keep, codeAny_func ?_⟩
  obtain ⟨t, ht, hq⟩ := hbody A outer s H vs Q E (hr.deeper _) hsp
  have I : Inv (cxOf CX P w K mg base N qual scope f cdv A outer s H E) [] (start N vs) H s1 := inv_start S hr.hd e0 hl r x
  refine wpAny_mono (ht [] s1 (start N vs) H _ I hq) (fun fl s' hs => ?_) fun e s' hs => hs
  have fin : ∀ {σ' : St} {H' : Hp} {v : V} {u : Value}, Inv (cxOf CX P w K mg base N qual scope f cdv A outer s H E) [] σ' H' s' → RelV v u → Q v H' → CE outer P w H s Q u s' :=
    fun {σ' H' v u} J rv q => ⟨v, H', J.os, J.bare, J.base, J.hok, rv, q⟩
  cases fl with
  | ret u =>
    obtain ⟨v, σ', H', J, rv, q⟩ := hs
    exact fin J rv q
  | next =>
    obtain ⟨σ', H', J, q⟩ := hs
    exact fin (v := V.non) (u := Value.none) J rfl q
  | brk =>
    obtain ⟨_, _, _, q⟩ := hs
    exact False.elim q
  | cont =>
    obtain ⟨_, _, _, q⟩ := hs
    exact False.elim q
end L2

namespace L2
open PySem PySem.Spec PyProof.Rows
section
variable {X : Cx} {x : Str} {p pos : Pos} {e : Expr} {es : List Expr} {t : TA} {id T : String} {r : List V → Hp → VK → Prop}

def tCB (r : List V → Hp → VK → Prop) (t : TA) : TE := fun σ H Q => t σ H fun vs H1 => r vs H1 Q
/-- f(e, ..), f a built-in function -/
theorem pe_callB (hc : CallR X (.builtin id) r) (hg : Gl X x) (hm : X.mg x = none) (hv : bootBuiltins x = some (.builtin id)) (ha : PA X (e :: es) t) (hn : x ≠ "__name__" := by decide) (hdb : (x == ("__debug__" : Str)) = false := by decide)
    (he : starEach (e :: es) X.env = (false, eval e X.env) :: starEach es X.env := by rfl) (hpl : (backTo pos (starEach es X.env)).any (·.1) = false := by rfl) : PE X (.Call (.Name x p) (e :: es) [] pos) (tCB r t) := by
  intro pins s σ H Q I h
  refine wpAny_Call_Name_kw (ld_blt I hg hm hv ?_ hn hdb)
  exact PyProof.Rows.callWith_builtin1 (thn (ha pos pins s σ H _ I h) fun us s1 ⟨vs, H1, I1, r1, q1⟩ => hc pins s1 σ H1 vs us Q I1 r1 q1) he hpl
/-- T(e, ..), T a built-in type -/
theorem pe_callTy (hc : CallR X (.type T) r) (hg : Gl X x) (hm : X.mg x = none) (hv : bootBuiltins x = some (.type T)) (ha : PA X (e :: es) t) (hn : x ≠ "__name__" := by decide) (hdb : (x == ("__debug__" : Str)) = false := by decide)
    (he : starEach (e :: es) X.env = (false, eval e X.env) :: starEach es X.env := by rfl) (hpl : (backTo pos (starEach es X.env)).any (·.1) = false := by rfl) : PE X (.Call (.Name x p) (e :: es) [] pos) (tCB r t) := by
  intro pins s σ H Q I h
  refine wpAny_Call_Name_kw (ld_blt I hg hm hv ?_ hn hdb)
  exact PyProof.Rows.callWith_type1 (thn (ha pos pins s σ H _ I h) fun us s1 ⟨vs, H1, I1, r1, q1⟩ => hc pins s1 σ H1 vs us Q I1 r1 q1) he hpl
end
end L2

namespace HT
open PySem PyProof.Rows

/-- t < u of tuples of ints -/
def lexLt : List Int → List Int → Bool
  | [], [] => false
  | [], _ :: _ => true
  | _ :: _, [] => false
  | x :: xs, y :: ys => if x = y then lexLt xs ys else decide (x < y)

section
open PySem.SeqAt
open PySem.AutoSeq1 (wpAny_loadPart')
open PySem.MeetsSeq PySem.MeetsSeq2 PySem.MeetsSeq3

end

section
variable {prog : Program} {w : World} {A : Around} {E : Value → Shared → Prop} {s : Shared}

/-! ### t[a:b], not the whole -/
/-- a slice's bound as a place among n (d where it is left out) -/
def sIx (n d : Nat) : Option Int → Nat
  | none => d
  | some v => if v < 0 then (v + (n : Int)).toNat else min v.toNat n

end
end HT

namespace L2
open PySem PySem.Spec PyProof.Rows

/-! ### the parts of a slice -/
abbrev TO := St → Hp → (Option Int → Hp → Prop) → Prop
/-- a slice's part (left out, or an int) -/
def PO (X : Cx) (e : Option Expr) (t : TO) : Prop :=
  ∀ (pins : List (Addr × Obj)) (s : Shared) (σ : St) (H : Hp) (Q : Option Int → Hp → Prop), Inv X pins σ H s → t σ H Q →
    wpAny (model X.prog X.w) X.A (evalPart e X.env) (fun u s' => ∃ o H', Inv X pins σ H' s' ∧ IsPart u o ∧ Q o H') X.xe s
def tNoPart : TO := fun _ H Q => Q none H
def tPart (t : TE) : TO := fun σ H Q => t σ H fun x H1 => ∃ i, x = .int i ∧ Q (some i) H1

section
variable {X : Cx} {e : Expr} {te : TE} {lo hi : Option Expr} {tl th : TO} {pos p2 : Pos}

theorem po_none : PO X none tNoPart := by
  intro pins s σ H Q I h
  rw [evalPart_none]
  exact wpAny_pure ⟨none, H, I, .none, h⟩
theorem po_some (h : PE X e te) : PO X (some e) (tPart te) := by
  intro pins s σ H Q I hw
  rw [evalPart_some]
  refine thn (h pins s σ H _ I hw) fun u s1 ⟨x, H1, I1, r1, q1⟩ => ?_
  obtain ⟨i, rfl, q⟩ := q1
  obtain ⟨t, rfl⟩ := r1
  exact ⟨some i, H1, I1, .int i t, q⟩

/-- what a slice of a value is, by values: the slice object stands at sl -/
def SlR (X : Cx) (r : V → Option Int → Option Int → Hp → VK → Prop) : Prop :=
  ∀ (pins : List (Addr × Obj)) (s : Shared) (σ : St) (H : Hp) (x : V) (v vl vu : Value) (lo hi : Option Int) (sl : Addr) (Q : VK), Inv X pins σ H s → RelV x v → s.heap.IsSliceOf sl vl vu .none → IsPart vl lo → IsPart vu hi → r x lo hi H Q →
    ∃ T id, typeLookup (.type T) "__getitem__" = pure (some (.builtin id)) ∧ s.TypeIs v T ∧ wpAny (model X.prog X.w) X.A (getItem v (.ref sl)) (EP X pins σ Q) X.xe s
theorem SlR.or {r r' : V → Option Int → Option Int → Hp → VK → Prop} (h : SlR X r) (h' : SlR X r') : SlR X (fun x lo hi H Q => r x lo hi H Q ∨ r' x lo hi H Q) := by
  intro pins s σ H x v vl vu lo hi sl Q I rx hs pl pu q
  rcases q with q | q
  · exact h pins s σ H x v vl vu lo hi sl Q I rx hs pl pu q
  · exact h' pins s σ H x v vl vu lo hi sl Q I rx hs pl pu q
def tSl (r : V → Option Int → Option Int → Hp → VK → Prop) (te : TE) (tl th : TO) : TE := fun σ H Q => te σ H fun x H1 => tl σ H1 fun l H2 => th σ H2 fun u H3 => r x l u H3 Q
/-- a[lo:hi], any a -/
theorem pe_slice {r : V → Option Int → Option Int → Hp → VK → Prop} (hr : SlR X r) (he : PE X e te) (hl : PO X lo tl) (hu : PO X hi th) : PE X (.Subscript e (.Slice lo hi none p2) pos) (tSl r te tl th) := by
  intro pins s σ H Q I h
  refine Subscript_ (thn (he pins s σ H _ I h) fun v s1 ⟨x, H1, I1, r1, q1⟩ => ?_)
  refine wpAny_Slice (thn (hl pins s1 σ H1 _ I1 q1) fun vl s2 ⟨l, H2, I2, pl, q2⟩ => thn (hu pins s2 σ H2 _ I2 q2) fun vu s3 ⟨u, H3, I3, pu, q3⟩ => ?_)
  rw [evalPart_none]
  refine wpAny_pure ?_
  have I4 : Inv X pins σ H3 { s3 with heap := s3.heap.push { cls := .type "slice", data := .fields #[vl, vu, .none] } } := I3.kept (t' := s3.toks) fun b ob q => Heap.get?_push_of_some _ q
  obtain ⟨T, id, hT, ht, hg⟩ := hr pins { s3 with heap := s3.heap.push { cls := .type "slice", data := .fields #[vl, vu, .none] } } σ H3 x v vl vu l u s3.heap.objs.size Q I4 r1 (Heap.IsSliceOf.new ..) pl pu q3
  show wpAny (model X.prog X.w) X.A (subscriptTail e (.Slice lo hi none p2) v (.ref s3.heap.objs.size)) (EP X pins σ Q) X.xe { s3 with heap := s3.heap.push { cls := .type "slice", data := .fields #[vl, vu, .none] } }
  exact tail_any (ops := [.ref s3.heap.objs.size, v]) ht hT hg (by with_unfolding_all rfl)

/-- the items of xs[lo:hi] -/
def cutV (xs : List V) (lo hi : Option Int) : List V := (xs.drop (HT.sIx xs.length 0 lo)).take (HT.sIx xs.length xs.length hi - HT.sIx xs.length 0 lo)
theorem cutV_length (xs : List V) (lo hi : Option Int) : (cutV xs lo hi).length ≤ xs.length := by
  unfold cutV
  rw [List.length_take, List.length_drop]
  omega
/-- t[lo:hi], not the whole of it (the whole would be t itself) -/
def rSlT (K : PySem.W.Frag) : V → Option Int → Option Int → Hp → VK → Prop := fun x lo hi H Q => ∃ a xs, x = .ref a ∧ SqT K H a xs ∧
  ¬ (HT.sIx xs.length 0 lo = 0 ∧ HT.sIx xs.length xs.length hi = xs.length) ∧ ∀ p, H p = none → Q (.ref p) (upd H p (.tup (cutV xs lo hi)))

/-! ### t < u, t + u -/
def rLtT (K : PySem.W.Frag) : R2 := fun x y H Q => ∃ a b ns ms, x = .ref a ∧ y = .ref b ∧ SqT K H a (ns.map V.int) ∧ SqT K H b (ms.map V.int) ∧ Q (.bl (HT.lexLt ns ms)) H
/-- t + u, t not empty: u empty gives t itself -/
def rCatT (K : PySem.W.Frag) : R2 := fun x y H Q => ∃ a b xs ys, x = .ref a ∧ y = .ref b ∧ SqT K H a xs ∧ SqT K H b ys ∧ xs ≠ [] ∧ xs.length + ys.length ≤ sizeLine ∧
  (ys = [] → Q (.ref a) H) ∧ (ys ≠ [] → ∀ p, H p = none → Q (.ref p) (upd H p (.tup (xs ++ ys))))
end
end L2

namespace L2
open PySem PySem.Spec PyProof.Rows

/-! ### places -/
/-- the place that an index of any sign means -/
def ixN (n : Nat) (i : Int) : Option Nat := if 0 ≤ i then (if i < n then some i.toNat else none) else if -(n : Int) ≤ i then some (i + n).toNat else none
def atI {α : Type} (xs : List α) (i : Int) : Option α := (ixN xs.length i).bind fun j => xs[j]?
theorem ixN_seq {n : Nat} {i : Int} {j : Nat} (h : ixN n i = some j) : seqIndex? i n = some j ∧ j < n ∧ -(n : Int) ≤ i ∧ i < n := by
  unfold ixN at h
  by_cases h0 : 0 ≤ i
  · rw [if_pos h0] at h
    by_cases h1 : i < n
    · rw [if_pos h1] at h
      have e : i.toNat = j := Option.some.inj h
      exact ⟨by rw [seqIndex_of h0 h1, e], by omega, by omega, h1⟩
    · rw [if_neg h1] at h; cases h
  · rw [if_neg h0] at h
    by_cases h1 : -(n : Int) ≤ i
    · rw [if_pos h1] at h
      have e : (i + n).toNat = j := Option.some.inj h
      exact ⟨by rw [seqIndex_neg (by omega) h1, e], by omega, h1, by omega⟩
    · rw [if_neg h1] at h; cases h
theorem atI_get {α : Type} {xs : List α} {i : Int} {v : α} (h : atI xs i = some v) : ∃ j, seqIndex? i xs.length = some j ∧ xs[j]? = some v ∧ j < xs.length ∧ -(xs.length : Int) ≤ i ∧ i < xs.length := by
  unfold atI at h
  cases e : ixN xs.length i with
  | none => rw [e] at h; cases h
  | some j =>
    rw [e] at h
    obtain ⟨h1, h2, h3, h4⟩ := ixN_seq e
    exact ⟨j, h1, h, h2, h3, h4⟩
theorem atI_nat {α : Type} {xs : List α} {j : Nat} {v : α} (h : xs[j]? = some v) : atI xs (j : Int) = some v := by
  have hj : j < xs.length := (List.getElem?_eq_some_iff.mp h).1
  have e : ixN xs.length (j : Int) = some j := by
    unfold ixN
    rw [if_pos (by omega), if_pos (by omega)]; simp
  unfold atI; rw [e]; exact h
theorem atI_last {α : Type} (xs : List α) (v : α) : atI (xs ++ [v]) (-1) = some v := by
  have hl : (xs ++ [v]).length = xs.length + 1 := by simp
  have e : ixN (xs ++ [v]).length (-1) = some xs.length := by
    unfold ixN
    rw [hl, if_neg (by decide), if_pos (by omega)]
    congr 1
    omega
  unfold atI
  rw [e]
  show (xs ++ [v])[xs.length]? = some v
  simp

/-! ### what may be subscripted -/
/-- what stands as an index of a plain subscript -/
def PlainIx (b : Expr) : Prop := ∀ o i, subscripted b false o i = operate [o, i] (getItem o i)
/-- a subscript by values -/
def IxR (X : Cx) (r : R2) : Prop :=
  ∀ (value slice : Expr) (pins : List (Addr × Obj)) (s : Shared) (σ : St) (H : Hp) (x y : V) (v u : Value) (Q : VK), Inv X pins σ H s → RelV x v → RelV y u → r x y H Q →
    subscripted slice false v u = operate [v, u] (getItem v u) → wpAny (model X.prog X.w) X.A (subscriptTail value slice v u) (EP X pins σ Q) X.xe s
/-- a call of a builtin's method by values: the receiver, the arguments -/
def MtR (X : Cx) (id : String) (r : V → List V → Hp → VK → Prop) : Prop :=
  ∀ (pins : List (Addr × Obj)) (s : Shared) (σ : St) (H : Hp) (x : V) (xs : List V) (v : Value) (us : List Value) (Q : VK), Inv X pins σ H s → RelV x v → Vals xs us → r x xs H Q →
    wpAny (model X.prog X.w) X.A (call (.builtin id) (v :: us)) (EP X pins σ Q) X.xe s
section
variable {X : Cx} {a b : Expr} {ta tb : TE} {pos : Pos}
theorem IxR.or {r r' : R2} (h : IxR X r) (h' : IxR X r') : IxR X (fun x y H Q => r x y H Q ∨ r' x y H Q) := by
  intro value slice pins s σ H x y v u Q I rx ry q hs
  rcases q with q | q
  · exact h value slice pins s σ H x y v u Q I rx ry q hs
  · exact h' value slice pins s σ H x y v u Q I rx ry q hs
theorem MtR.or {id : String} {r r' : V → List V → Hp → VK → Prop} (h : MtR X id r) (h' : MtR X id r') : MtR X id (fun x xs H Q => r x xs H Q ∨ r' x xs H Q) := by
  intro pins s σ H x xs v us Q I rx rs q
  rcases q with q | q
  · exact h pins s σ H x xs v us Q I rx rs q
  · exact h' pins s σ H x xs v us Q I rx rs q
/-- a[b] -/
theorem pe_ix {r : R2} (hr : IxR X r) (ha : PE X a ta) (hb : PE X b tb) (hs : PlainIx b) : PE X (.Subscript a b pos) (tOp r ta tb) := by
  intro pins s σ H Q I h
  exact Subscript_ (binT ha hb I h fun v u s2 x y H2 I2 rx ry q => hr a b pins s2 σ H2 x y v u Q I2 rx ry q (hs _ _))

def rIxL (K : PySem.W.Frag) : R2 := fun x y H Q => ∃ p xs i v, x = .ref p ∧ y = .int i ∧ SqL K H p xs ∧ atI xs i = some v ∧ Q v H
def rIxT (K : PySem.W.Frag) : R2 := fun x y H Q => ∃ p xs i v, x = .ref p ∧ y = .int i ∧ SqT K H p xs ∧ atI xs i = some v ∧ Q v H
def rIxS : R2 := fun x y H Q => ∃ z i c, x = .str z ∧ y = .int i ∧ z.length ≤ sizeLine ∧ atI z.cps.toList i = some c ∧ Q (.str ⟨#[c]⟩) H
theorem ix_list : IxR X (rIxL X.K) := by
  intro value slice pins s σ H x y v u Q I rx ry h hs
  obtain ⟨p, xs, i, z, rfl, rfl, hq, he, q⟩ := h
  cases rx
  obtain ⟨t, rfl⟩ := ry
  obtain ⟨its, r, pl, hz⟩ := I.list hq
  obtain ⟨j, h1, h2, h3, h4, h5⟩ := atI_get he
  obtain ⟨w, ew, rw'⟩ := r.get h2
  have hl := r.length
  have hn := line63
  have fin : EP X pins σ Q w s := ⟨z, H, I, rw', q⟩
  by_cases h0 : 0 ≤ i
  · have hj : i.toNat = j := by
      rw [seqIndex_of h0 h5] at h1
      exact Option.some.inj h1
    exact item_listR pl.isList h0 (by omega) (by rw [hj]; simpa using ew) fin hs
  · have hj : (i + (its.toArray.size : Int)).toNat = j := by
      rw [seqIndex_neg (by omega) h4] at h1
      rw [List.size_toArray, ← hl]
      exact Option.some.inj h1
    exact subscriptTail_builtinR (x := w) pl.isList.typeIs slot_list_getitem.lookup
      (wpAny_getItem_list_neg (Q := fun r s' => r = w ∧ EP X pins σ Q r s') pl.isList (by omega) (by rw [List.size_toArray] <;> omega) (by omega) (by rw [hj]; simpa using ew) ⟨rfl, fin⟩) hs
theorem ix_tup : IxR X (rIxT X.K) := by
  intro value slice pins s σ H x y v u Q I rx ry h hs
  obtain ⟨p, xs, i, z, rfl, rfl, hq, he, q⟩ := h
  cases rx
  obtain ⟨t, rfl⟩ := ry
  obtain ⟨its, r, pl, hz⟩ := I.tuple hq
  obtain ⟨j, h1, h2, h3, h4, h5⟩ := atI_get he
  obtain ⟨w, ew, rw'⟩ := r.get h2
  have hl := r.length
  have hn := line63
  have fin : EP X pins σ Q w s := ⟨z, H, I, rw', q⟩
  exact subscriptTail_builtinR (x := w) pl.typeIs slot_tuple_getitem.lookup
    (getItem_tuple (j := j) (Q := fun r s' => r = w ∧ EP X pins σ Q r s') pl (by omega) (by omega) (by rw [List.size_toArray, ← hl]; exact h1) (by simpa using ew) ⟨rfl, fin⟩) hs
theorem ix_str : IxR X rIxS := by
  intro value slice pins s σ H x y v u Q I rx ry h hs
  obtain ⟨z, i, c, rfl, rfl, hz, he, q⟩ := h
  obtain ⟨t, rfl⟩ := rx
  obtain ⟨t', rfl⟩ := ry
  obtain ⟨j, h1, h2, h3, h4, h5⟩ := atI_get he
  have hl : z.cps.toList.length = z.length := by simp [Str.length]
  rw [hl] at h1 h4 h5
  have hn := line63
  exact tail_any (typeIs_str s z t) slot_str_getitem.lookup (getItem_str (c := c) (by
    have e1 : decide (i < -(2 ^ 63 : Int)) = false := decide_eq_false (by omega)
    have e2 : decide (i ≥ 2 ^ 63) = false := decide_eq_false (by omega)
    rw [e1, e2, Bool.or_false]) (by rw [h1]; simpa using h2) ⟨.str ⟨#[c]⟩, H, I.tok _, ⟨_, rfl⟩, q⟩) hs
/-- list, tuple or str -/
def rIx (K : PySem.W.Frag) : R2 := fun x y H Q => rIxL K x y H Q ∨ rIxT K x y H Q ∨ rIxS x y H Q

/-! ### xs[i] = v, any sign -/
/-- the list's object behind a store -/
theorem mapSeq_set (its : List Value) (n j : Nat) (u : Value) : Obj.mapSeq (·.setIfInBounds j u) { cls := .type "list", data := .seq its.toArray n } = { cls := .type "list", data := .seq (its.set j u).toArray n } := by
  simp [Obj.mapSeq]
theorem Inv.lst {pins : List (Addr × Obj)} {σ : St} {H : Hp} {s : Shared} {p : Addr} {xs : List V} (I : Inv X pins σ H s) (h : H p = some (.lst xs)) :
    ∃ (its : List Value) (n : Nat), Vals xs its ∧ s.heap.get? p = some { cls := .type "list", data := .seq its.toArray n } ∧ xs.length ≤ sizeLine := by
  obtain ⟨z, its, n, r, e⟩ := I.hok p _ h
  exact ⟨its, n, r, e, z⟩
/-- the list at p is written by an update of its object -/
theorem Inv.lstUpd {pins : List (Addr × Obj)} {σ : St} {H : Hp} {s : Shared} {p : Addr} {xs ys : List V} {its its' : List Value} {n n' : Nat} {f : Obj → Obj} (I : Inv X pins σ H s) (h : H p = some (.lst xs))
    (ho : s.heap.get? p = some { cls := .type "list", data := .seq its.toArray n }) (hf : f { cls := .type "list", data := .seq its.toArray n } = { cls := .type "list", data := .seq its'.toArray n' }) (r : Vals ys its') (hz : ys.length ≤ sizeLine) (t : Nat) :
    Inv X pins σ (upd H p (.lst ys)) { s with heap := s.heap.update p f, toks := t } := by
  have e : (s.heap.update p f).get? p = some { cls := .type "list", data := .seq its'.toArray n' } := by
    rw [Heap.get?_update_self f ho (by rw [hf] <;> rfl), hf]
  refine I.write (x := p) (e := p) (by rw [h]; trivial) (.inl rfl) (fun b u hb q => (Heap.get?_update_other _ _ (Ne.symm hb)).trans q) ⟨_, e⟩ ?_
  exact ⟨hz, its', n', r, e⟩
def rSetL : V → V → V → Hp → (Hp → Prop) → Prop := fun o i v H Q => ∃ p xs k j, o = .ref p ∧ i = .int k ∧ H p = some (.lst xs) ∧ ixN xs.length k = some j ∧ Q (upd H p (.lst (xs.set j v)))
theorem set_list : PSet X rSetL := by
  intro pins s σ H o i v ov iv u Q I ro ri rv h
  obtain ⟨p, xs, k, j, rfl, rfl, hp, hj, q⟩ := h
  cases ro
  obtain ⟨t, rfl⟩ := ri
  obtain ⟨its, n, r, ho, hz⟩ := I.lst hp
  obtain ⟨h1, h2, h3, h4⟩ := ixN_seq hj
  have hl := r.length
  have hn := line63
  have I' : Inv X pins σ (upd H p (.lst (xs.set j v))) { s with heap := s.heap.update p (Obj.mapSeq (·.setIfInBounds j u)) } :=
    I.lstUpd hp ho (mapSeq_set its n j u) (r.set rv j) (by rw [List.length_set]; exact hz) s.toks
  by_cases h0 : 0 ≤ k
  · have hk : k.toNat = j := by
      rw [seqIndex_of h0 h4] at h1
      exact Option.some.inj h1
    exact PySem.W.ki_setAt ho h0 (by omega) (by rw [List.size_toArray, ← hl]; exact h4) (by rw [hk]; exact ⟨_, I', q⟩)
  · have hk : (k + (its.toArray.size : Int)).toNat = j := by
      rw [seqIndex_neg (by omega) h3] at h1
      rw [List.size_toArray, ← hl]
      exact Option.some.inj h1
    exact PySem.W.ki_setBack ho (by omega) (by rw [List.size_toArray, ← hl]; exact h3) (by omega) (by rw [hk]; exact ⟨_, I', q⟩)

/-! ### slices -/
theorem slice_bounds (lo hi : Option Int) (n : Nat) : (sliceBounds lo hi none n).1 = ((HT.sIx n 0 lo : Nat) : Int) ∧ (sliceBounds lo hi none n).2.1 = ((HT.sIx n n hi : Nat) : Int) ∧ (sliceBounds lo hi none n).2.2 = 1 := by
  refine ⟨?_, ?_, rfl⟩
  · cases lo with
    | none => simp [sliceBounds, HT.sIx]
    | some i =>
      simp only [sliceBounds, HT.sIx, Option.getD_none, show (1 : Int) > 0 by decide, if_true]
      by_cases h : i < 0
      · simp only [h, if_true] <;> omega
      · simp only [h, if_false] <;> omega
  · cases hi with
    | none => simp [sliceBounds, HT.sIx]
    | some i =>
      simp only [sliceBounds, HT.sIx, Option.getD_none, show (1 : Int) > 0 by decide, if_true]
      by_cases h : i < 0
      · simp only [h, if_true] <;> omega
      · simp only [h, if_false] <;> omega
theorem slicePick_cut (its : List Value) (lo hi : Option Int) : slicePick its.toArray lo hi none = ((its.drop (HT.sIx its.length 0 lo)).take (HT.sIx its.length its.length hi - HT.sIx its.length 0 lo)).toArray := by
  obtain ⟨h1, h2, h3⟩ := slice_bounds lo hi its.toArray.size
  unfold slicePick
  rw [h1, h2, h3]
  simp only [sliceRange_one, pick_run, List.size_toArray] <;> rfl
/-- xs[lo:hi] of a list: a new list -/
def rSlL (K : PySem.W.Frag) : V → Option Int → Option Int → Hp → VK → Prop := fun x lo hi H Q => ∃ a xs, x = .ref a ∧ SqL K H a xs ∧ ∀ p, H p = none → Q (.ref p) (upd H p (.lst (cutV xs lo hi)))
theorem sl_list : SlR X (rSlL X.K) := by
  intro pins s σ H x v vl vu lo hi sl Q I rx hs pl pu h
  obtain ⟨a, xs, rfl, hx, q⟩ := h
  cases rx
  obtain ⟨its, r, ht, hz⟩ := I.list hx
  have hlen := r.length
  refine ⟨"list", _, slot_list_getitem.lookup, ht.isList.typeIs, ?_⟩
  refine wpAny_getItem_list_slice ht.isList hs pl pu .none (by simp) ?_ (by rw [List.size_toArray] <;> omega)
  rw [slicePick_cut, ← hlen]
  refine ⟨.ref s.heap.objs.size, _, I.laid (t' := s.toks) (o := .lst (cutV xs lo hi)) (fun b ob q => Heap.get?_push_of_some _ q) (Nat.le_refl _) ?_, rfl, q _ (I.hok.fresh (Nat.le_refl _))⟩
  exact ⟨Nat.le_trans (cutV_length xs lo hi) hz, _, 0, (r.drop (HT.sIx xs.length 0 lo)).take (HT.sIx xs.length xs.length hi - HT.sIx xs.length 0 lo), Heap.get?_push_size _ rfl⟩

/-! ### in, not in: flat items -/
def flatV : V → Bool
  | .non => true
  | .bl _ => true
  | .int _ => true
  | .str _ => true
  | _ => false
/-- == of flat values -/
def eqV : V → V → Bool
  | .non, .non => true
  | .bl a, .bl b => a == b
  | .bl a, .int b => (if a then 1 else 0) == b
  | .int a, .bl b => a == (if b then 1 else 0)
  | .int a, .int b => a == b
  | .str a, .str b => a == b
  | _, _ => false
theorem eqAt_V {A : Around} {s : Shared} {y x : V} {u v : Value} (ry : RelV y u) (rx : RelV x v) (fy : flatV y = true) (fx : flatV x = true) : SeqAt.EqAt A s u v (eqV y x) := by
  cases y with
  | non =>
    cases ry
    cases x with
    | non => cases rx; exact SeqAt.EqAt.same _
    | bl b => cases rx; exact SeqAt.EqAt.none_bool b
    | int b => obtain ⟨t, rfl⟩ := rx; exact SeqAt.EqAt.none_int b t
    | str b => obtain ⟨t, rfl⟩ := rx; exact SeqAt.EqAt.none_str b t
    | _ => exact absurd (show false = true from fx) Bool.false_ne_true
  | bl a =>
    cases ry
    cases x with
    | non => cases rx; exact SeqAt.EqAt.bool_none a
    | bl b => cases rx; exact SeqAt.EqAt.bool_bool a b
    | int b => obtain ⟨t, rfl⟩ := rx; exact SeqAt.EqAt.bool_int a b t
    | str b => obtain ⟨t, rfl⟩ := rx; exact SeqAt.EqAt.bool_str a b t
    | _ => exact absurd (show false = true from fx) Bool.false_ne_true
  | int a =>
    obtain ⟨t', rfl⟩ := ry
    cases x with
    | non => cases rx; exact SeqAt.EqAt.int_none a t'
    | bl b => cases rx; exact SeqAt.EqAt.int_bool a t' b
    | int b => obtain ⟨t, rfl⟩ := rx; exact SeqAt.EqAt.int_int a t' b t
    | str b => obtain ⟨t, rfl⟩ := rx; exact SeqAt.EqAt.int_str a t' b t
    | _ => exact absurd (show false = true from fx) Bool.false_ne_true
  | str a =>
    obtain ⟨t', rfl⟩ := ry
    cases x with
    | non => cases rx; exact SeqAt.EqAt.str_none a t'
    | bl b => cases rx; exact SeqAt.EqAt.str_bool a t' b
    | int b => obtain ⟨t, rfl⟩ := rx; exact SeqAt.EqAt.str_int a t' b t
    | str b => obtain ⟨t, rfl⟩ := rx; exact SeqAt.EqAt.str_str a t' b t
    | _ => exact absurd (show false = true from fx) Bool.false_ne_true
  | _ => exact absurd (show false = true from fy) Bool.false_ne_true
/-- the items' answers, read off the values (a value's own answer does not lean on its token) -/
def eqU (x : V) (u : Value) : Bool := match u with
  | .none => eqV .non x
  | .bool b => eqV (.bl b) x
  | .int i _ => eqV (.int i) x
  | .str z _ => eqV (.str z) x
  | _ => false
theorem eqU_of {x y : V} {u : Value} (r : RelV y u) (f : flatV y = true) : eqU x u = eqV y x := by
  cases y with
  | non => cases r; rfl
  | bl b => cases r; rfl
  | int i => obtain ⟨t, rfl⟩ := r; rfl
  | str z => obtain ⟨t, rfl⟩ := r; rfl
  | _ => exact absurd (show false = true from f) Bool.false_ne_true
theorem any_eqU {x : V} : ∀ {xs : List V} {us : List Value}, Vals xs us → xs.all flatV = true → us.any (eqU x) = xs.any fun y => eqV y x
  | _, _, .nil, _ => rfl
  | y :: xs, u :: us, .cons r t, f => by
    rw [List.all_cons, Bool.and_eq_true] at f
    rw [List.any_cons, List.any_cons, eqU_of r f.1, any_eqU t f.2]
theorem mem_eqAt {A : Around} {s : Shared} {x : V} {v : Value} (rx : RelV x v) (fx : flatV x = true) : ∀ {xs : List V} {us : List Value}, Vals xs us → xs.all flatV = true → ∀ u ∈ us, SeqAt.EqAt A s u v (eqU x u)
  | _, _, .nil, _ => fun u hu => by cases hu
  | y :: xs, u :: us, .cons r t, f => fun u' hu => by
    rw [List.all_cons, Bool.and_eq_true] at f
    rcases List.mem_cons.mp hu with rfl | hu
    · rw [eqU_of r f.1]; exact eqAt_V r rx f.1 fx
    · exact mem_eqAt rx fx t f.2 u' hu
def inV (x : V) (xs : List V) : Bool := xs.any fun y => eqV y x
/-- x in a list or tuple of flat items -/
def rIn (K : PySem.W.Frag) (neg : Bool) : R2 := fun x y H Q => ∃ p xs, y = .ref p ∧ (SqL K H p xs ∨ SqT K H p xs) ∧ flatV x = true ∧ xs.all flatV = true ∧ Q (.bl (if neg then !inV x xs else inV x xs)) H
theorem op_in_seq : OpR X (compareOp .In) (rIn X.K false) := by
  intro pins s σ H x y v u Q I rx ry h
  obtain ⟨p, xs, rfl, hq, fx, fs, q⟩ := h
  cases ry
  rcases hq with hq | hq
  · obtain ⟨its, r, pl, hz⟩ := I.list hq
    refine SeqAt.in_listAt (eqU x) pl.isList (fun w hw => mem_eqAt rx fx r fs w (by simpa using hw)) ⟨.bl _, H, I, rfl, ?_⟩
    rw [show its.toArray.any (eqU x) = its.any (eqU x) by simp, any_eqU r fs]
    exact q
  · obtain ⟨its, r, pl, hz⟩ := I.tuple hq
    refine SeqAt.in_tupleAt (eqU x) pl (fun w hw => mem_eqAt rx fx r fs w (by simpa using hw)) ⟨.bl _, H, I, rfl, ?_⟩
    rw [show its.toArray.any (eqU x) = its.any (eqU x) by simp, any_eqU r fs]
    exact q
theorem op_notIn_seq : OpR X (compareOp .NotIn) (rIn X.K true) := by
  intro pins s σ H x y v u Q I rx ry h
  obtain ⟨p, xs, rfl, hq, fx, fs, q⟩ := h
  cases ry
  rcases hq with hq | hq
  · obtain ⟨its, r, pl, hz⟩ := I.list hq
    refine SeqAt.notIn_listAt (eqU x) pl.isList (fun w hw => mem_eqAt rx fx r fs w (by simpa using hw)) ⟨.bl _, H, I, rfl, ?_⟩
    rw [show its.toArray.any (eqU x) = its.any (eqU x) by simp, any_eqU r fs]
    exact q
  · obtain ⟨its, r, pl, hz⟩ := I.tuple hq
    refine SeqAt.notIn_tupleAt (eqU x) pl (fun w hw => mem_eqAt rx fx r fs w (by simpa using hw)) ⟨.bl _, H, I, rfl, ?_⟩
    rw [show its.toArray.any (eqU x) = its.any (eqU x) by simp, any_eqU r fs]
    exact q

/-! ### len, list(x), tuple(x) of any list or tuple that is read -/
theorem call_len_seq : CallR X (.builtin "len") (fun xs H Q => ∃ p ys, xs = [.ref p] ∧ (SqL X.K H p ys ∨ SqT X.K H p ys) ∧ Q (.int ys.length) H) := by
  intro pins s σ H xs us Q I r h
  obtain ⟨p, ys, rfl, hq, q⟩ := h
  obtain ⟨u, rfl, rx⟩ := vals1 r
  cases rx
  have hn := line63
  rcases hq with hq | hq
  · obtain ⟨its, r', pl, hz⟩ := I.list hq
    have hlen := r'.length
    exact Calls.call_len_list pl.isList (by simp only [List.size_toArray] <;> omega) ⟨.int ys.length, H, I.tok _, ⟨s.toks + 1, by rw [List.size_toArray, hlen]⟩, q⟩
  · obtain ⟨its, r', pl, hz⟩ := I.tuple hq
    have hlen := r'.length
    exact len_tuple pl (by simp only [List.size_toArray] <;> omega) ⟨.int ys.length, H, I.tok _, ⟨s.toks + 1, by rw [List.size_toArray, hlen]⟩, q⟩
theorem call_len_str : CallR X (.builtin "len") (fun xs H Q => ∃ z, xs = [.str z] ∧ z.length ≤ sizeLine ∧ Q (.int z.length) H) := by
  intro pins s σ H xs us Q I r h
  obtain ⟨z, rfl, hz, q⟩ := h
  obtain ⟨u, rfl, t, rfl⟩ := vals1 r
  have hn := line63
  exact len_str (by omega) ⟨.int z.length, H, I.tok _, ⟨_, rfl⟩, q⟩
theorem CallR.or {f : Value} {r r' : List V → Hp → VK → Prop} (h : CallR X f r) (h' : CallR X f r') : CallR X f (fun xs H Q => r xs H Q ∨ r' xs H Q) := by
  intro pins s σ H xs us Q I rs q
  rcases q with q | q
  · exact h pins s σ H xs us Q I rs q
  · exact h' pins s σ H xs us Q I rs q
theorem call_list_of : CallR X (.type "list") (fun xs H Q => ∃ p ys, xs = [.ref p] ∧ (SqL X.K H p ys ∨ SqT X.K H p ys) ∧ ∀ l, H l = none → Q (.ref l) (upd H l (.lst ys))) := by
  intro pins s σ H xs us Q I r h
  obtain ⟨p, ys, rfl, hq, q⟩ := h
  obtain ⟨u, rfl, rx⟩ := vals1 r
  cases rx
  have fin : ∀ (its : List Value), Vals ys its → ys.length ≤ sizeLine → ∀ (h' : Heap) (c' : Nat), (∀ b o', s.heap.get? b = some o' → h'.get? b = some o') →
      h'.get? s.heap.objs.size = some { cls := .type "list", dict := none, data := .seq its.toArray c', slots := #[] } → EP X pins σ Q (.ref s.heap.objs.size) { s with heap := h' } := fun its r' hz h' c' kp e =>
    ⟨.ref s.heap.objs.size, _, I.laid (t' := s.toks) kp (Nat.le_refl _) (show ObjOk X.prog X.w _ h' _ (.lst ys) from ⟨hz, its, c', r', e⟩), rfl, q _ (I.hok.fresh (Nat.le_refl _))⟩
  rcases hq with hq | hq
  · obtain ⟨its, r', pl, hz⟩ := I.list hq
    have hlen := r'.length
    obtain ⟨o, ho, hc, n, hd⟩ := pl.isList
    exact call_list_seq p (.inl rfl) ho hc hd (fun h' c' kp e => fin its r' hz h' c' kp e) (by simp only [List.size_toArray] <;> omega)
  · obtain ⟨its, r', pl, hz⟩ := I.tuple hq
    have hlen := r'.length
    obtain ⟨o, ho, hc, n, hd⟩ := pl
    exact call_list_seq p (.inr rfl) ho hc hd (fun h' c' kp e => fin its r' hz h' c' kp e) (by simp only [List.size_toArray] <;> omega)

/-! ### the call of a builtin's method: o.m(..) -/
/-- the value is of that builtin type -/
def tyV (K : PySem.W.Frag) (T : String) (x : V) (H : Hp) : Prop := match x with
  | .str _ => T = "str"
  | .int _ => T = "int"
  | .ref p => (T = "list" ∧ ∃ xs, SqL K H p xs) ∨ (T = "tuple" ∧ ∃ o, K.lookup p = some o ∧ o.cls = .type "tuple" ∧ o.dict = none) ∨
      (T = "dict" ∧ ((∃ kvs, H p = some (.dK kvs)) ∨ ∃ kvs, H p = some (.dT kvs))) ∨ (T = "set" ∧ ∃ S n, H p = some (.set S n))
  | _ => False
theorem tyV_is {pins : List (Addr × Obj)} {σ : St} {H : Hp} {s : Shared} {T : String} {x : V} {v : Value} (I : Inv X pins σ H s) (r : RelV x v) (ty : tyV X.K T x H) :
    s.TypeIs v T ∧ ∀ a, v = .ref a → ∃ ob, s.heap.get? a = some ob ∧ ob.dict = none := by
  cases x with
  | str z =>
    obtain ⟨t, rfl⟩ := r
    cases (show T = "str" from ty)
    exact ⟨typeIs_str s z t, fun _ e => nomatch e⟩
  | int i =>
    obtain ⟨t, rfl⟩ := r
    cases (show T = "int" from ty)
    exact ⟨typeIs_int s i t, fun _ e => nomatch e⟩
  | ref p =>
    cases r
    rcases ty with ⟨rfl, xs, hq⟩ | ⟨rfl, o, hk, hc, hd⟩ | ⟨rfl, hk⟩ | ⟨rfl, S, n, hk⟩
    · obtain ⟨its, _, pl, _⟩ := I.list hq
      refine ⟨pl.isList.typeIs, fun a e => ?_⟩
      cases e
      obtain ⟨o, n, e, c, hd, _⟩ := pl
      exact ⟨o, e, hd⟩
    · refine ⟨⟨o, I.kIn p o hk, hc⟩, fun a e => ?_⟩
      cases e
      exact ⟨o, I.kIn _ o hk, hd⟩
    · have z : ∃ o, s.heap.get? p = some o ∧ o.ExactDict := by
        rcases hk with ⟨kvs, hk⟩ | ⟨kvs, hk⟩
        · obtain ⟨_, _, _, _, o, _, _, e, ex, _⟩ := I.hok p _ hk
          exact ⟨o, e, ex⟩
        · obtain ⟨_, _, _, _, o, _, _, e, ex, _⟩ := I.hok p _ hk
          exact ⟨o, e, ex⟩
      obtain ⟨o, e, ex⟩ := z
      refine ⟨⟨o, e, ex.1⟩, fun a e2 => ?_⟩
      cases e2
      exact ⟨o, e, ex.2.1⟩
    · obtain ⟨o, _, _, _, e, ex, _⟩ := I.hok p _ hk
      refine ⟨⟨o, e, ex.1⟩, fun a e2 => ?_⟩
      cases e2
      exact ⟨o, e, ex.2.1⟩
  | _ => exact False.elim ty
def tBM0 (K : PySem.W.Frag) (T : String) (r : V → List V → Hp → VK → Prop) (to : TE) : TE := fun σ H Q => to σ H fun x H1 => tyV K T x H1 ∧ r x [] H1 Q
def tBM (K : PySem.W.Frag) (T : String) (r : V → List V → Hp → VK → Prop) (to : TE) (t : TA) : TE := fun σ H Q => to σ H fun x H1 => tyV K T x H1 ∧ t σ H1 fun xs H2 => r x xs H2 Q
variable {o e : Expr} {es : List Expr} {to : TE} {t : TA} {name : Str} {apos cpos : Pos} {T id : String} {r : V → List V → Hp → VK → Prop}
theorem pe_bm0 (pa : PlainAttrs T) (slot : Slot T name id) (hty : typeOf (.builtin id) = pure (.type "method_descriptor")) (hm : MtR X id r) (ho : PE X o to)
    (hbase : attributeBase o name X.env (eval o X.env) = eval o X.env := by rfl) (hline : (apos.endLine == cpos.line) = true := by rfl) : PE X (.Call (.Attribute o name apos) [] [] cpos) (tBM0 X.K T r to) := by
  intro pins s σ H Q I h
  refine wpAny_Call_method0_late hbase hline (thn (ho pins s σ H _ I h) fun v s1 ⟨x, H1, I1, r1, ty, q1⟩ => ?_)
  obtain ⟨h1, h2⟩ := tyV_is I1 r1 ty
  exact ⟨T, id, pa, slot, hty, h1, h2, Calls.callWith_builtin rfl (PySem.evalArgs_none (hm pins s1 σ H1 x [] v [] Q I1 r1 .nil q1))⟩
theorem pe_bm (pa : PlainAttrs T) (slot : Slot T name id) (hty : typeOf (.builtin id) = pure (.type "method_descriptor")) (hm : MtR X id r) (ho : PE X o to) (ha : PA X (e :: es) t)
    (hbase : attributeBase o name X.env (eval o X.env) = eval o X.env := by rfl)
    (hfew : ((backTo cpos (starEach (e :: es) X.env)).all (fun x => !x.1) && (backToKw cpos (keywordEach [] X.env)).all (fun x => x.1.isSome)
      && decide ((e :: es).length + ([] : List Keyword).length + (if ([] : List Keyword).isEmpty then 0 else 1) < 30)) = true := by rfl)
    (hline : (apos.endLine == cpos.line) = true := by rfl) (hs : starEach (e :: es) X.env = (false, eval e X.env) :: starEach es X.env := by rfl) (hplain : (backTo cpos (starEach es X.env)).any (·.1) = false := by rfl) :
    PE X (.Call (.Attribute o name apos) (e :: es) [] cpos) (tBM X.K T r to t) := by
  intro pins s σ H Q I h
  refine wpAny_Call_method_late hbase hfew hline rfl (thn (ho pins s σ H _ I h) fun v s1 ⟨x, H1, I1, r1, ty, q1⟩ => ?_)
  obtain ⟨h1, h2⟩ := tyV_is I1 r1 ty
  refine ⟨T, id, pa, slot, hty, h1, h2, ?_⟩
  have hA := ha cpos pins s1 σ H1 _ I1 q1
  rw [hs] at hA ⊢
  refine Calls.callWith_builtin (by show (false || (backTo cpos (starEach es X.env)).any (·.1)) = false; rw [hplain] <;> rfl) (Calls.evalArgs_plain ?_)
  exact thn hA fun us s2 ⟨vs, H2, I2, r2, q2⟩ => hm pins s2 σ H2 x vs v us Q I2 r1 r2 q2
/- xs.append(e), list.index on a module's tuple .. are MtR facts of 06m -/
end
end L2

namespace L2
open PySem PySem.Spec PyProof.Rows

def MtM (X : Cx) (id : String) (r : V → List V → Hp → VK → Prop) : Prop :=
  ∀ (pins : List (Addr × Obj)) (s : Shared) (σ : St) (H : Hp) (x : V) (xs : List V) (v : Value) (us : List Value) (Q : VK), Inv X pins σ H s → RelV x v → Vals xs us → r x xs H Q →
    wpAny (model X.prog X.w) X.A (call (.builtin id) (v :: us)) (EP X pins σ Q) X.xe s

/-! ### lists of values -/
theorem Vals.one : ∀ {x : V} {us : List Value}, Vals [x] us → ∃ u, us = [u] ∧ RelV x u
  | _, _, .cons r .nil => ⟨_, rfl, r⟩
theorem Vals.two : ∀ {x y : V} {us : List Value}, Vals [x, y] us → ∃ u v, us = [u, v] ∧ RelV x u ∧ RelV y v
  | _, _, _, .cons r (.cons q .nil) => ⟨_, _, rfl, r, q⟩
theorem Vals.zero : ∀ {us : List Value}, Vals [] us → us = []
  | _, .nil => rfl
theorem Vals.dropLast {xs : List V} {us : List Value} (h : Vals xs us) : Vals xs.dropLast us.dropLast := by
  induction h with
  | nil => exact .nil
  | cons r t ih =>
    cases t with
    | nil => exact .nil
    | cons q t' => exact .cons r ih
theorem Vals.eraseIdx : ∀ {xs : List V} {us : List Value} (i : Nat), Vals xs us → Vals (xs.eraseIdx i) (us.eraseIdx i)
  | _, _, _, .nil => .nil
  | _, _, 0, .cons _ t => t
  | _, _, i + 1, .cons r t => .cons r (Vals.eraseIdx i t)
theorem Vals.reverse {xs : List V} {us : List Value} (h : Vals xs us) : Vals xs.reverse us.reverse := by
  induction h with
  | nil => exact .nil
  | cons r t ih => rw [List.reverse_cons, List.reverse_cons]; exact Vals.append ih (.cons r .nil)
theorem erase_last {α : Type} (l : List α) : l.eraseIdx (l.length - 1) = l.dropLast := by
  induction l with
  | nil => rfl
  | cons a r ih =>
    cases r with
    | nil => rfl
    | cons b r =>
      have e : (a :: b :: r).length - 1 = ((b :: r).length - 1) + 1 := by
        have h1 : (a :: b :: r).length = r.length + 2 := rfl
        have h2 : (b :: r).length = r.length + 1 := rfl
        omega
      rw [e, List.eraseIdx_cons_succ, ih]
      all_goals rfl

section
variable {X : Cx} {pins : List (Addr × Obj)} {σ : St} {H : Hp} {s : Shared} {l b : Addr} {xs ys zs : List V}

/-! ### the two steps: a tracked list is rewritten, a new list is laid -/
theorem Inv.lset {its its' : List Value} {n : Nat} {f : Array Value → Array Value} {t' : Nat} (I : Inv X pins σ H s) (hH : H l = some (.lst xs))
    (e : s.heap.get? l = some { cls := .type "list", data := .seq its.toArray n }) (hf : f its.toArray = its'.toArray) (hv : Vals ys its') (hz : ys.length ≤ sizeLine) :
    Inv X pins σ (upd H l (.lst ys)) { s with heap := s.heap.update l (Obj.mapSeq f), toks := t' } := by
  have q := PySem.IsL.update e f
  rw [hf] at q
  refine I.write (x := l) (e := l) (by rw [hH]; exact trivial) (.inl rfl) (fun b' u hb hu => (Heap.get?_update_other s.heap (Obj.mapSeq f) (Ne.symm hb)).trans hu) ⟨_, q⟩ ?_
  exact ⟨hz, its', _, hv, q⟩
theorem Inv.lnew {its : List Value} {t' : Nat} (I : Inv X pins σ H s) (hv : Vals ys its) (hz : ys.length ≤ sizeLine) :
    Inv X pins σ (upd H s.heap.objs.size (.lst ys)) { s with heap := s.heap.push { cls := .type "list", data := .seq its.toArray }, toks := t' } :=
  I.laid (fun _ _ q => Heap.get?_push_of_some _ q) (Nat.le_refl _) ⟨hz, its, 0, hv, Heap.get?_push_size _ rfl⟩
theorem Inv.fresh (I : Inv X pins σ H s) : H s.heap.objs.size = none := I.hok.fresh (Nat.le_refl _)
theorem Inv.lstM (I : Inv X pins σ H s) (hH : H l = some (.lst xs)) : xs.length ≤ sizeLine ∧ ∃ (its : List Value) (n : Nat), Vals xs its ∧ xs.length = its.length ∧ s.heap.get? l = some { cls := .type "list", data := .seq its.toArray n } := by
  obtain ⟨z, its, n, r, e⟩ := I.hok l _ hH
  exact ⟨z, its, n, r, r.length, e⟩

theorem notLongL {n : Nat} (h : n ≤ sizeLine) : Builtin.List.listTooLong n = false := by
  unfold Builtin.List.listTooLong
  exact decide_eq_false (by omega)
end

section
variable {X : Cx}

/-! ### methods -/
def rAppend : V → List V → Hp → VK → Prop := fun x vs H Q => ∃ l xs y, x = .ref l ∧ vs = [y] ∧ H l = some (.lst xs) ∧ xs.length < sizeLine ∧ Q .non (upd H l (.lst (xs ++ [y])))
theorem mt_append : MtM X "list.append" rAppend := by
  intro pins s σ H x vs v us Q I rx rv h
  obtain ⟨l, xs, y, rfl, rfl, hH, hz, q⟩ := h
  cases rx
  obtain ⟨u, rfl, ru⟩ := rv.one
  obtain ⟨z, its, n, r, hl, e⟩ := I.lstM hH
  refine call_meets F.slot_list_append ⟨_, e, rfl⟩ F.entry_list_append (F.args_list_append_2 _ _) (PySem.list_append l its.toArray n u (by rw [List.size_toArray]; omega)) ⟨e, ?_⟩
  refine ⟨.non, _, I.lset (its' := its ++ [u]) hH e (by simp) (r.append (.cons ru .nil)) ?_, rfl, q⟩
  rw [List.length_append, List.length_singleton]
  omega

def rExtend : V → List V → Hp → VK → Prop := fun x vs H Q => ∃ l b xs zs, x = .ref l ∧ vs = [.ref b] ∧ H l = some (.lst xs) ∧ H b = some (.lst zs) ∧ xs.length + zs.length ≤ sizeLine ∧ Q .non (upd H l (.lst (xs ++ zs)))
theorem mt_extend : MtM X "list.extend" rExtend := by
  intro pins s σ H x vs v us Q I rx rv h
  obtain ⟨l, b, xs, zs, rfl, rfl, hH, hB, hz, q⟩ := h
  cases rx
  obtain ⟨u, rfl, ru⟩ := rv.one
  cases ru
  obtain ⟨z, its, n, r, hl, e⟩ := I.lstM hH
  obtain ⟨z2, its2, n2, r2, hl2, e2⟩ := I.lstM hB
  have hsz : its.toArray.size + its2.toArray.size ≤ sizeLine := by rw [List.size_toArray, List.size_toArray]; omega
  have hlong : ¬ (!its.toArray.isEmpty && Builtin.List.listTooLong (its.toArray.size + its2.toArray.size)) = true := by
    rw [notLongL hsz, Bool.and_false]
    exact Bool.false_ne_true
  refine call_meets F.slot_list_extend ⟨_, e, rfl⟩ F.entry_list_extend (F.args_list_extend_2 _ _)
    (AutoSeq1.list_extend_list_list_0 l its.toArray n b its2.toArray n2 hlong (by rw [List.size_toArray]; omega) (by omega)) ⟨e, e2, ?_⟩
  refine ⟨.non, _, I.lset (its' := its ++ its2) hH e (by simp) (r.append r2) ?_, rfl, q⟩
  rw [List.length_append]
  omega

def rPop : V → List V → Hp → VK → Prop := fun x vs H Q => ∃ l xs y, x = .ref l ∧ vs = [] ∧ H l = some (.lst xs) ∧ xs[xs.length - 1]? = some y ∧ Q y (upd H l (.lst xs.dropLast))
theorem mt_pop : MtM X "list.pop" rPop := by
  intro pins s σ H x vs v us Q I rx rv h
  obtain ⟨l, xs, y, rfl, rfl, hH, hy, q⟩ := h
  cases rx
  have hus := rv.zero
  subst hus
  obtain ⟨z, its, n, r, hl, e⟩ := I.lstM hH
  obtain ⟨u, hu, ru⟩ := r.get hy
  have hy' : its.toArray[its.toArray.size - 1]? = some u := by
    show its.toArray[its.length - 1]? = some u
    rw [← Array.getElem?_toList, ← hl]
    exact hu
  refine call_meets F.slot_list_pop ⟨_, e, rfl⟩ F.entry_list_pop (F.args_list_pop_1 _) (MeetsSeq.list_pop_last l its.toArray n u hy' (by rw [List.size_toArray]; omega)) ⟨e, ?_⟩
  refine ⟨y, _, I.lset (its' := its.dropLast) hH e ?_ r.dropLast ?_, ru, q⟩
  · show its.toArray.eraseIdxIfInBounds (its.toArray.size - 1) = its.dropLast.toArray
    rw [List.size_toArray, List.eraseIdxIfInBounds_toArray, erase_last]
  · rw [List.length_dropLast]
    omega

def rPopAt : V → List V → Hp → VK → Prop := fun x vs H Q => ∃ l xs i k y, x = .ref l ∧ vs = [.int i] ∧ H l = some (.lst xs) ∧ -(2 ^ 63) ≤ i ∧ i < 2 ^ 63 ∧ seqIndex? i xs.length = some k ∧ xs[k]? = some y ∧ Q y (upd H l (.lst (xs.eraseIdx k)))

def rReverse : V → List V → Hp → VK → Prop := fun x vs H Q => ∃ l xs, x = .ref l ∧ vs = [] ∧ H l = some (.lst xs) ∧ Q .non (upd H l (.lst xs.reverse))

def rClear : V → List V → Hp → VK → Prop := fun x vs H Q => ∃ l xs, x = .ref l ∧ vs = [] ∧ H l = some (.lst xs) ∧ Q .non (upd H l (.lst []))

/-! ### list + list, list += list, list * int -/
def rCat : R2 := fun x y H Q => ∃ l b xs zs, x = .ref l ∧ y = .ref b ∧ H l = some (.lst xs) ∧ H b = some (.lst zs) ∧ xs.length + zs.length ≤ sizeLine ∧ ∀ p, H p = none → Q (.ref p) (upd H p (.lst (xs ++ zs)))
theorem op_cat : OpR X (binaryOp .Add) rCat := by
  intro pins s σ H x y v u Q I rx ry h
  obtain ⟨l, b, xs, zs, rfl, rfl, hH, hB, hz, q⟩ := h
  cases rx
  cases ry
  obtain ⟨z, its, n, r, hl, e⟩ := I.lstM hH
  obtain ⟨z2, its2, n2, r2, hl2, e2⟩ := I.lstM hB
  refine PySem.P.add_list e e2 ?_ (by rw [List.size_toArray, List.size_toArray]; omega)
  have ea : its.toArray ++ its2.toArray = (its ++ its2).toArray := by simp
  rw [ea]
  exact ⟨.ref _, _, I.lnew (t' := s.toks) (r.append r2) (by rw [List.length_append]; omega), rfl, q _ I.fresh⟩
/-- a list times an int (a negative one is nothing) -/
def rRep : R2 := fun x y H Q => ∃ l k xs, x = .ref l ∧ y = .int k ∧ H l = some (.lst xs) ∧ -(2 ^ 63) ≤ k ∧ k < 2 ^ 63 ∧ xs.length * k.toNat ≤ sizeLine ∧
  ∀ p, H p = none → Q (.ref p) (upd H p (.lst (List.replicate k.toNat xs).flatten))

/-! ### del xs[i] -/
end

/-! ### xs[a:b] = ys -/
section
variable {prog : Program} {w : World} {A : Around} {E : Value → Shared → Prop} {s : Shared}
set_option maxRecDepth 100000 in
end

section
variable {X : Cx}
end
end L2

namespace L2
open PySem PySem.Spec PyProof.Rows

/-! ### lists of pairs as tables -/
section
variable {κ : Type} [DecidableEq κ]
def valV (kvs : List (κ × V)) (k : κ) : Option V := (kvs.find? fun kv => decide (kv.1 = k)).map (·.2)
/-- in its place, or at the end -/
def putK (kvs : List (κ × V)) (k : κ) (v : V) : List (κ × V) :=
  if (kvs.any fun kv => decide (kv.1 = k)) = true then kvs.map (fun kv => if kv.1 = k then (kv.1, v) else kv) else kvs ++ [(k, v)]
def dropK (kvs : List (κ × V)) (k : κ) : List (κ × V) := kvs.filter fun kv => decide (kv.1 ≠ k)

theorem valV_pos {p : κ × V} {r : List (κ × V)} {k : κ} (e : p.1 = k) : valV (p :: r) k = some p.2 := by simp [valV, List.find?_cons, e]
theorem valV_neg {p : κ × V} {r : List (κ × V)} {k : κ} (e : ¬ p.1 = k) : valV (p :: r) k = valV r k := by simp [valV, List.find?_cons, e]
theorem valV_any (k : κ) : ∀ kvs : List (κ × V), (kvs.any fun kv => decide (kv.1 = k)) = (valV kvs k).isSome
  | [] => rfl
  | p :: r => by
    rw [List.any_cons]
    by_cases e : p.1 = k
    · simp only [valV_pos e, decide_eq_true e, Bool.true_or, Option.isSome_some]
    · rw [valV_neg e, decide_eq_false e, Bool.false_or]; exact valV_any k r
theorem length_putK (kvs : List (κ × V)) (k : κ) (v : V) : (putK kvs k v).length ≤ kvs.length + 1 := by
  unfold putK
  split
  · rw [List.length_map]; omega
  · rw [List.length_append, List.length_cons, List.length_nil]; omega
theorem putK_new {kvs : List (κ × V)} {k : κ} (v : V) (h : valV kvs k = none) : putK kvs k v = kvs ++ [(k, v)] := by
  unfold putK
  rw [valV_any, h]
  exact if_neg (by decide)

theorem RelO.isSome_eq {o : Option V} {u : Option Value} (r : RelO o u) : o.isSome = u.isSome := by
  cases o with
  | none => cases u with
    | none => rfl
    | some _ => exact (show False from r).elim
  | some _ => cases u with
    | none => exact (show False from r).elim
    | some _ => rfl
theorem RelO.getD {o : Option V} {u : Option Value} {d : V} {d' : Value} (r : RelO o u) (rd : RelV d d') : RelV (o.getD d) (u.getD d') := by
  cases o with
  | none => cases u with
    | none => exact rd
    | some _ => exact (show False from r).elim
  | some _ => cases u with
    | none => exact (show False from r).elim
    | some _ => exact r

/-- raw tables of the same keys -/
theorem KV.val {kvs : List (κ × V)} {vs : List (κ × Value)} (r : KV kvs vs) (k : κ) : RelO (valV kvs k) (valueAt vs k) := by
  unfold KV at r
  induction r with
  | nil => exact True.intro
  | @cons p q ps qs h t ih =>
    obtain ⟨h1, h2⟩ := h
    by_cases e : p.1 = k
    · have e' : q.1 = k := h1.symm.trans e
      have b : valueAt (q :: qs) k = some q.2 := by simp [valueAt, List.find?_cons, e']
      rw [valV_pos e, b]; exact h2
    · have e' : ¬ q.1 = k := fun z => e (h1.trans z)
      have b : valueAt (q :: qs) k = valueAt qs k := by simp [valueAt, List.find?_cons, e']
      rw [valV_neg e, b]; exact ih
theorem KV.any {kvs : List (κ × V)} {vs : List (κ × Value)} (r : KV kvs vs) (k : κ) : (kvs.any fun kv => decide (kv.1 = k)) = vs.any fun kv => decide (kv.1 = k) := by
  unfold KV at r
  induction r with
  | nil => rfl
  | cons h t ih => rw [List.any_cons, List.any_cons, ih, h.1]
theorem KV.repl {kvs : List (κ × V)} {vs : List (κ × Value)} (r : KV kvs vs) (k : κ) {y : V} {u : Value} (ry : RelV y u) :
    KV (kvs.map fun kv => if kv.1 = k then (kv.1, y) else kv) (vs.map fun kv => if kv.1 = k then (kv.1, u) else kv) := by
  unfold KV at r ⊢
  induction r with
  | nil => exact .nil
  | @cons p q ps qs h t ih =>
    rw [List.map_cons, List.map_cons]
    refine .cons ?_ ih
    obtain ⟨h1, h2⟩ := h
    by_cases e : p.1 = k
    · rw [if_pos e, if_pos (h1.symm.trans e)]; exact ⟨h1, ry⟩
    · rw [if_neg e, if_neg (fun z => e (h1.trans z))]; exact ⟨h1, h2⟩
theorem KV.put {kvs : List (κ × V)} {vs : List (κ × Value)} (r : KV kvs vs) (k : κ) {y : V} {u : Value} (ry : RelV y u) : KV (putK kvs k y) (stored vs k u) := by
  unfold putK stored
  rw [r.any k]
  by_cases e : (vs.any fun kv => decide (kv.1 = k)) = true
  · rw [if_pos e, if_pos e]; exact r.repl k ry
  · rw [if_neg e, if_neg e]; exact Paired.snoc r ⟨rfl, ry⟩
theorem KV.drop {kvs : List (κ × V)} {vs : List (κ × Value)} (r : KV kvs vs) (k : κ) : KV (dropK kvs k) (without vs k) := by
  unfold KV at r ⊢
  unfold dropK without
  induction r with
  | nil => exact .nil
  | @cons p q ps qs h t ih =>
    obtain ⟨h1, h2⟩ := h
    rw [List.filter_cons, List.filter_cons]
    by_cases e : p.1 = k
    · have a : ¬ decide (p.1 ≠ k) = true := by simp [e]
      have b : ¬ decide (q.1 ≠ k) = true := by simp [h1.symm.trans e]
      rw [if_neg a, if_neg b]; exact ih
    · have e' : ¬ q.1 = k := fun z => e (h1.trans z)
      have a : decide (p.1 ≠ k) = true := by simp [e]
      have b : decide (q.1 ≠ k) = true := by simp [e']
      rw [if_pos a, if_pos b]; exact .cons ⟨h1, h2⟩ ih
theorem KV.keys {kvs : List (κ × V)} {vs : List (κ × Value)} (r : KV kvs vs) : kvs.map (·.1) = vs.map (·.1) := by
  unfold KV at r
  induction r with
  | nil => rfl
  | cons h t ih => rw [List.map_cons, List.map_cons, ih, h.1]
theorem KV.length {kvs : List (κ × V)} {vs : List (κ × Value)} (r : KV kvs vs) : kvs.length = vs.length := Paired.length r
end

/-! ### a tracked dict, its keys ints and texts or tuples of these -/
theorem kV_is {P : Program} {w : World} {k : Key} {u : Value} (r : RelV (kV k) u) : (mixKind P w).is k u = true := by
  cases k with
  | inl i => obtain ⟨t, e⟩ := (show ∃ t, u = Value.int i t from r); subst e; exact mixKind_int P w i t
  | inr x => obtain ⟨t, e⟩ := (show ∃ t, u = Value.str x t from r); subst e; exact mixKind_str P w x t
theorem items_are {P : Program} {w : World} : ∀ {ks : List Key} {us : List Value}, Vals (ks.map kV) us → ItemsAre (mixKind P w) ks us
  | [], _, r => by rw [List.map_nil] at r; cases r; exact .nil
  | k :: ks, _, r => by
    rw [List.map_cons] at r
    cases r with
    | cons h t => exact .cons (kV_is h) (items_are t)

/-- raw entries of a dict with tuple keys -/
abbrev KT (H : Hp) : List (List Key × V) → List (List Key × Addr × Value) → Prop := Paired fun p q => p.1 = q.1 ∧ H q.2.1 = some (.tup (p.1.map kV)) ∧ RelV p.2 q.2.2
theorem KT.val {H : Hp} {kvs : List (List Key × V)} {xs : List (List Key × Addr × Value)} (r : KT H kvs xs) (k : List Key) : RelO (valV kvs k) ((atKey xs k).map (·.2)) := by
  induction r with
  | nil => exact True.intro
  | @cons p q ps qs h t ih =>
    obtain ⟨h1, _, h2⟩ := h
    by_cases e : p.1 = k
    · have e' : q.1 = k := h1.symm.trans e
      have b : atKey (q :: qs) k = some q.2 := by simp [atKey, List.find?_cons, e']
      rw [valV_pos e, b]; exact h2
    · have e' : ¬ q.1 = k := fun z => e (h1.trans z)
      have b : atKey (q :: qs) k = atKey qs k := by simp [atKey, List.find?_cons, e']
      rw [valV_neg e, b]; exact ih
theorem KT.repl {H : Hp} {kvs : List (List Key × V)} {xs : List (List Key × Addr × Value)} (r : KT H kvs xs) (k : List Key) {y : V} {u : Value} (ry : RelV y u) :
    KT H (kvs.map fun kv => if kv.1 = k then (kv.1, y) else kv) (xs.map (putAt k u)) := by
  induction r with
  | nil => exact .nil
  | @cons p q ps qs h t ih =>
    rw [List.map_cons, List.map_cons]
    refine .cons ?_ ih
    obtain ⟨h1, h2, h3⟩ := h
    unfold putAt
    by_cases e : p.1 = k
    · rw [if_pos e, if_pos (h1.symm.trans e)]; exact ⟨h1, h2, ry⟩
    · rw [if_neg e, if_neg (fun z => e (h1.trans z))]; exact ⟨h1, h2, h3⟩
theorem KT.put {H : Hp} {kvs : List (List Key × V)} {xs : List (List Key × Addr × Value)} (r : KT H kvs xs) (k : List Key) {b : Addr} {y : V} {u : Value} (hb : H b = some (.tup (k.map kV))) (ry : RelV y u) :
    KT H (putK kvs k y) (storedH xs k b u) := by
  have e : (kvs.any fun kv => decide (kv.1 = k)) = (atKey xs k).isSome := by
    rw [valV_any, (r.val k).isSome_eq, Option.isSome_map]
  unfold putK storedH
  rw [e]
  by_cases q : (atKey xs k).isSome = true
  · rw [if_pos q, if_pos q]; exact r.repl k ry
  · rw [if_neg q, if_neg q]; exact Paired.snoc r ⟨rfl, hb, ry⟩
theorem KT.keeps {H H' : Hp} {kvs : List (List Key × V)} {xs : List (List Key × Addr × Value)} (r : KT H kvs xs) (ht : ∀ b ys, H b = some (.tup ys) → H' b = some (.tup ys)) : KT H' kvs xs :=
  Paired.mapP r fun _ _ z => ⟨z.1, ht _ _ z.2.1, z.2.2⟩

section
variable {P : Program} {w : World} {H : Hp} {h : Heap} {a : Addr}
theorem rd_of {u : HO} (ok : HOk P w H h) (e : Rd H a u) : ObjOk P w H h a u := e.ok ok
theorem dk_rd {kvs : List (Key × V)} (ok : HOk P w H h) (e : Rd H a (.dK kvs)) : kvs.length ≤ sizeLine ∧ (a == sysModules) = false ∧ ∃ vs, KV kvs vs ∧ h.DictOf (mixKind P w) a vs :=
  show ObjOk P w H h a (.dK kvs) from rd_of ok e
theorem dk_of {kvs : List (Key × V)} (ok : HOk P w H h) (e : H a = some (.dK kvs)) : kvs.length ≤ sizeLine ∧ (a == sysModules) = false ∧ ∃ vs, KV kvs vs ∧ h.DictOf (mixKind P w) a vs := dk_rd ok (.inl e)
/-- a tracked tuple of ints and texts is a key -/
theorem key_of {ks : List Key} (ok : HOk P w H h) (e : H a = some (.tup (ks.map kV))) : (tupleKind (mixKind P w)).is h ks a := by
  obtain ⟨_, its, r, o, h1, h2, n, h3⟩ := (show ObjOk P w H h a (.tup (ks.map kV)) from ok a _ e)
  exact ⟨o, its.toArray, n, h1, h2, h3, by simpa using items_are r⟩
theorem dt_rd {kvs : List (List Key × V)} (ok : HOk P w H h) (e : Rd H a (.dT kvs)) : kvs.length ≤ sizeLine ∧ (a == sysModules) = false ∧
    ∃ xs, KT H kvs xs ∧ h.DictOfH (tupleKind (mixKind P w)) a xs := by
  obtain ⟨z, y, xs, r, o, es, ep, h1, h2, h3, h4, h5⟩ := (show ObjOk P w H h a (.dT kvs) from rd_of ok e)
  refine ⟨z, y, xs, r, o, es, ep, h1, h2, h3, h4, fun x hx => ?_, h5⟩
  have all : ∀ {l : List (List Key × V)} {m : List (List Key × Addr × Value)}, KT H l m → ∀ x ∈ m, (tupleKind (mixKind P w)).is h x.1 x.2.1 := by
    intro l m q
    induction q with
    | nil => intro x hx; exact nomatch hx
    | @cons p q ps qs hq t ih =>
      intro x hx
      rcases List.mem_cons.mp hx with e | hx
      · subst e
        exact key_of ok (by rw [← hq.1]; exact hq.2.1)
      · exact ih x hx
  exact all r x hx
theorem dt_of {kvs : List (List Key × V)} (ok : HOk P w H h) (e : H a = some (.dT kvs)) : kvs.length ≤ sizeLine ∧ (a == sysModules) = false ∧
    ∃ xs, KT H kvs xs ∧ h.DictOfH (tupleKind (mixKind P w)) a xs := dt_rd ok (.inl e)
end

/-- what the dict at a holds at the key y -/
def DGet (H : Hp) (a : Addr) (y : V) (r : Option V) : Prop :=
  (∃ kvs k, Rd H a (.dK kvs) ∧ y = kV k ∧ r = valV kvs k) ∨ ∃ kvs k b, Rd H a (.dT kvs) ∧ y = .ref b ∧ H b = some (.tup (k.map kV)) ∧ r = valV kvs k
/-- the heap behind a[y] = v -/
def DPut (H : Hp) (a : Addr) (y v : V) (H' : Hp) : Prop :=
  (∃ kvs k, H a = some (.dK kvs) ∧ y = kV k ∧ kvs.length < sizeLine ∧ H' = upd H a (.dK (putK kvs k v))) ∨
  ∃ kvs k b, H a = some (.dT kvs) ∧ y = .ref b ∧ H b = some (.tup (k.map kV)) ∧ kvs.length < sizeLine ∧ H' = upd H a (.dT (putK kvs k v))
theorem DGet.k {H : Hp} {a : Addr} {kvs : List (Key × V)} {k : Key} (e : H a = some (.dK kvs)) : DGet H a (kV k) (valV kvs k) := .inl ⟨kvs, k, .inl e, rfl, rfl⟩
theorem DGet.t {H : Hp} {a b : Addr} {kvs : List (List Key × V)} {k : List Key} (e : H a = some (.dT kvs)) (eb : H b = some (.tup (k.map kV))) : DGet H a (.ref b) (valV kvs k) := .inr ⟨kvs, k, b, .inl e, rfl, eb, rfl⟩
theorem DPut.k {H : Hp} {a : Addr} {kvs : List (Key × V)} {k : Key} {v : V} (e : H a = some (.dK kvs)) (hl : kvs.length < sizeLine) : DPut H a (kV k) v (upd H a (.dK (putK kvs k v))) := .inl ⟨kvs, k, e, rfl, hl, rfl⟩
theorem DPut.t {H : Hp} {a b : Addr} {kvs : List (List Key × V)} {k : List Key} {v : V} (e : H a = some (.dT kvs)) (eb : H b = some (.tup (k.map kV))) (hl : kvs.length < sizeLine) :
    DPut H a (.ref b) v (upd H a (.dT (putK kvs k v))) := .inr ⟨kvs, k, b, e, rfl, eb, hl, rfl⟩

section
variable {X : Cx} {pins : List (Addr × Obj)} {σ : St} {H : Hp} {s : Shared} {a : Addr} {y v : V} {u r : Value} {o : Option V} {A : Around} {E : Value → Shared → Prop}

theorem Inv.big (I : Inv X pins σ H s) : sysModules < s.heap.objs.size := by
  have h : mainGlobals < s.heap.objs.size := (I.mod.glob.keeps I.bk).lt
  exact Nat.lt_trans (by decide) h

/-- d[y], there -/
theorem d_getItem {Q : Value → Shared → Prop} (hu : A.units + 1 < cLine) (I : Inv X pins σ H s) (g : DGet H a y (some v)) (ry : RelV y u) (h : ∀ w' s', Inv X pins σ H s' → RelV v w' → Q w' s') :
    wpAny (model X.prog X.w) A (getItem (.ref a) u) Q E s := by
  rcases g with ⟨kvs, k, e, ey, l⟩ | ⟨kvs, k, b, e, ey, eb, l⟩
  · subst ey
    obtain ⟨z, hd, vs, rel, dd⟩ := dk_rd I.hok e
    obtain ⟨w', hw, rw'⟩ := RelO.some_of (v := v) (o := valueAt vs k) (by rw [l]; exact rel.val k)
    exact wpAny_getItem_of (kV_is ry) dd.mapOf hw (h w' _ (I.tok _) rw')
  · subst ey
    cases (show u = Value.ref b from ry)
    obtain ⟨z, hd, xs, rel, dd⟩ := dt_rd I.hok e
    obtain ⟨w', hw, rw'⟩ := RelO.some_of (v := v) (o := (atKey xs k).map (·.2)) (by rw [l]; exact rel.val k)
    obtain ⟨p, hp, hp2⟩ := Option.map_eq_some_iff.mp hw
    refine wpAny_getItem_heap (tupleKind_room_in1 hu) (key_of I.hok eb) dd hp ?_
    rw [hp2]
    exact h w' _ (I.tok _) rw'
/-- a dict's object is replaced -/
theorem d_write {h' : Heap} {t' : Nat} {ob : HO} (I : Inv X pins σ H s) (mu : Mut (H a)) (hs : Heap.SameBut a s.heap h') (he : ∃ q, h'.get? a = some q) (new : ObjOk X.prog X.w (upd H a ob) h' a ob) :
    Inv X pins σ (upd H a ob) { s with heap := h', toks := t' } :=
  I.write (x := a) (e := a) mu (.inl rfl) (fun b q hb z => (hs.2 b hb).trans z) he new
theorem dk_new {P : Program} {w : World} {H' : Hp} {h' : Heap} {kvs : List (Key × V)} {vs : List (Key × Value)} (z : kvs.length ≤ sizeLine) (hd : (a == sysModules) = false) (rel : KV kvs vs) (dd : h'.DictOf (mixKind P w) a vs) :
    ObjOk P w H' h' a (.dK kvs) := ⟨z, hd, vs, rel, dd⟩
/-- d[y] = v -/
theorem d_setItem {H' : Hp} {Q : Unit → Shared → Prop} (hu : A.units + 1 < cLine) (I : Inv X pins σ H s) (g : DPut H a y v H') (ry : RelV y u) (rv : RelV v r) (h : ∀ s', Inv X pins σ H' s' → Q () s') :
    wpAny (model X.prog X.w) A (setItem (.ref a) u r) Q E s := by
  rcases g with ⟨kvs, k, e, ey, l, eH⟩ | ⟨kvs, k, b, e, ey, eb, l, eH⟩
  · subst ey eH
    obtain ⟨z, hd, vs, rel, dd⟩ := dk_of I.hok e
    have hz : vs.length ≤ sizeLine := by rw [← rel.length]; exact z
    have hl : (putK kvs k v).length ≤ sizeLine := by have := length_putK kvs k v; omega
    refine wpAny_setItem_pairs (hsz := hz) (kV_is ry) dd fun h' dd' hs => h _ ?_
    have he : ∃ q, h'.get? a = some q := let ⟨q, _, _, hq, _⟩ := dd'; ⟨q, hq⟩
    exact d_write I (by rw [e]; exact True.intro) hs he (dk_new hl hd (rel.put k rv) dd')
  · subst ey eH
    cases (show u = Value.ref b from ry)
    obtain ⟨z, hd, xs, rel, dd⟩ := dt_of I.hok e
    have hz : xs.length ≤ sizeLine := by rw [← Paired.length rel]; exact z
    have hl : (putK kvs k v).length ≤ sizeLine := by have := length_putK kvs k v; omega
    refine wpAny_setItem_heap (hsz := hz) (tupleKind_room_in1 hu) (key_of I.hok eb) dd fun h' dd' hs => h _ ?_
    obtain ⟨q, es, ep, hq, h2, h3, h4, _, h5⟩ := dd'
    refine d_write I (by rw [e]; exact True.intro) hs ⟨q, hq⟩ ⟨hl, hd, _, (rel.put k eb rv).keeps fun c ys ec => ?_, q, es, ep, hq, h2, h3, h4, h5⟩
    rw [upd_ne (ne_of ec e (fun z => nomatch z))]
    exact ec
end

section
variable {X : Cx} {pins : List (Addr × Obj)} {σ : St} {H : Hp} {s : Shared} {a : Addr} {kvs : List (Key × V)} {k : Key} {u : Value} {A : Around} {E : Value → Shared → Prop}
end

/-! ### readings and rules -/
/-- the element of a subscription, not a slice -/
def NoSl (i : Expr) : Prop := ∀ ov iv, subscripted i false ov iv = operate [ov, iv] (getItem ov iv)
theorem subD_of {prog : Program} {w : World} {A : Around} {E : Value → Shared → Prop} {s : Shared} {env : Env} {value slice : Expr} {pos : Pos} {T id : String} {Q : Value → Shared → Prop}
    (hl : typeLookup (.type T) "__getitem__" = pure (some (.builtin id))) (hs : NoSl slice)
    (h : wpAny (model prog w) A (eval value env) (fun o s₁ => wpAny (model prog w) A (eval slice env) (fun i s₂ => s₂.TypeIs o T ∧ wpAny (model prog w) A (getItem o i) Q E s₂) E s₁) E s) :
    wpAny (model prog w) A (eval (.Subscript value slice pos) env) Q E s := by
  refine Subscript_ (wpAny_mono h (fun o s₁ h₁ => wpAny_mono h₁ (fun i s₂ h₂ => ?_) fun _ _ x => x) fun _ _ x => x)
  obtain ⟨hT, h₂⟩ := h₂
  unfold subscriptTail
  refine wpAny_bind ?_
  rw [getitemInPython_of_ne hT.not_modules]
  refine wpAny_bind (wpAny_specialOf hT hl ?_)
  have fin : wpAny (model prog w) A (subscripted slice false o i) (fun r s₃ => wpAny (model prog w) A (letTemporaryGo value o r >>= fun _ => pure r) Q E s₃) E s₂ := by
    rw [hs o i]
    exact wpAny_operating (wpAny_mono h₂ (fun r s₃ h₃ => wpAny_bind (wpAny_letTemporaryGo (wpAny_pure h₃))) fun _ _ x => x)
  first
    | exact wpAny_pure (wpAny_bind fin)
    | exact wpAny_bind (wpAny_pure (wpAny_bind fin))
    | exact wpAny_bind fin

theorem dict_typeIs {X : Cx} {pins : List (Addr × Obj)} {σ : St} {H : Hp} {s : Shared} {a : Addr} {y : V} {o : Option V} (I : Inv X pins σ H s) (g : DGet H a y o) : s.TypeIs (.ref a) "dict" := by
  rcases g with ⟨kvs, k, e, _, _⟩ | ⟨kvs, k, b, e, _, _, _⟩
  · obtain ⟨_, _, vs, _, dd⟩ := dk_rd I.hok e
    exact dd.typeIs
  · obtain ⟨_, _, xs, _, dd⟩ := dt_rd I.hok e
    exact dd.typeIs

/-- d[y] -/
def tDGet (td ty : TE) : TE := fun σ H Q => td σ H fun x H1 => ty σ H1 fun y H2 => ∃ a v, x = .ref a ∧ DGet H2 a y (some v) ∧ Q v H2
/-- y in d, y not in d -/
def tDIn (ty td : TE) : TE := fun σ H Q => ty σ H fun y H1 => td σ H1 fun x H2 => ∃ a o, x = .ref a ∧ DGet H2 a y o ∧ Q (.bl o.isSome) H2
def tDNotIn (ty td : TE) : TE := fun σ H Q => ty σ H fun y H1 => td σ H1 fun x H2 => ∃ a o, x = .ref a ∧ DGet H2 a y o ∧ Q (.bl (!o.isSome)) H2
/-- d[y] = v -/
def sDPut (td ty tv : TE) : TS := fun D σ H => tv σ H fun v H1 => td σ H1 fun x H2 => ty σ H2 fun y H3 => ∃ a H4, x = .ref a ∧ DPut H3 a y v H4 ∧ D.nx σ H4
/-- d[y] op= v -/
def sDAug (td ty tv : TE) (rd : V → V → Hp → VK → Prop) : TS := fun D σ H => td σ H fun x H1 => ty σ H1 fun y H2 => ∃ a v, x = .ref a ∧ DGet H2 a y (some v) ∧
  tv σ H2 fun y2 H3 => rd v y2 H3 fun z H4 => ∃ H5, DPut H4 a y z H5 ∧ D.nx σ H5
/-- del d[y] -/
def sDDel (td ty : TE) : TS := fun D σ H => td σ H fun x H1 => ty σ H1 fun y H2 => ∃ a kvs k, x = .ref a ∧ H2 a = some (.dK kvs) ∧ y = kV k ∧ (valV kvs k).isSome = true ∧ D.nx σ (upd H2 a (.dK (dropK kvs k)))

section
variable {X : Cx} {o i e value : Expr} {pos pos' tpos : Pos} {td ty tv : TE}
theorem pe_dget (hu : X.A.units + 1 < cLine) (ho : PE X o td) (hi : PE X i ty) (hs : NoSl i) : PE X (.Subscript o i pos) (tDGet td ty) := by
  intro pins s σ H Q I h
  refine subD_of PySem.F.slot_dict_getitem.lookup hs (thn (ho pins s σ H _ I h) fun u s1 ⟨x, H1, I1, rx, q1⟩ => thn (hi pins s1 σ H1 _ I1 q1) fun iv s2 ⟨y, H2, I2, ry, a, v, ex, g, q2⟩ => ?_)
  subst ex
  obtain rfl : u = Value.ref a := rx
  exact ⟨dict_typeIs I2 g, d_getItem hu I2 g ry fun w' s3 I3 rw' => ⟨v, H2, I3, rw', q2⟩⟩
theorem ps_dput (hu : X.A.units + 1 < cLine) (ho : PE X o td) (hi : PE X i ty) (hv : PE X value tv) (hs : swapsWith value (some (.Subscript o i pos')) pos.line X.env = pure false) :
    PS X (.Assign [.Subscript o i pos'] value pos) (sDPut td ty tv) := by
  intro pins s σ H D I h
  refine wpAny_Assign_Subscript (thn (hv pins s σ H _ I h) fun r s1 ⟨v, H1, I1, rv, q1⟩ => thn (ho pins s1 σ H1 _ I1 q1) fun u s2 ⟨x, H2, I2, rx, q2⟩ => thn (hi pins s2 σ H2 _ I2 q2) fun iv s3 ⟨y, H3, I3, ry, a, H4, ex, g, q3⟩ => ?_) hs
  subst ex
  obtain rfl : u = Value.ref a := rx
  exact d_setItem hu I3 g ry rv fun s4 I4 => ⟨σ, H4, I4, q3⟩
end

/-! ### displays -/
theorem dk_empty {P : Program} {w : World} {H : Hp} (h : Heap) (hb : sysModules < h.objs.size) : ObjOk P w H (h.push { cls := .type "dict", data := .dict #[] }) h.objs.size (.dK []) :=
  ⟨Nat.zero_le _, beq_eq_false_iff_ne.mpr (Ne.symm (Nat.ne_of_lt hb)), [], .nil, Heap.DictOf.new h⟩
/-- {}, to be a dict of the kind that is wanted -/
def tDNewK : TE := fun _ H Q => ∀ p, H p = none → Q (.ref p) (upd H p (.dK []))
def tDNewT : TE := fun _ H Q => ∀ p, H p = none → Q (.ref p) (upd H p (.dT []))
section
variable {X : Cx} {pos : Pos}
theorem pe_dnewK : PE X (.Dict [] [] pos) tDNewK := fun pins s σ H Q I h =>
  wpAny_Dict_empty ⟨.ref s.heap.objs.size, _, I.laid (a := s.heap.objs.size) (o := .dK []) (t' := s.toks) (fun _ _ q => Heap.get?_push_of_some _ q) (Nat.le_refl _) (dk_empty s.heap I.big), rfl, h _ (I.hok.fresh (Nat.le_refl _))⟩
end

/-- the pairs of a display, from the left -/
def tPairs : List (TE × TE) → St → Hp → (List (V × V) → Hp → Prop) → Prop
  | [], _, H, Q => Q [] H
  | (tk, tv) :: r, σ, H, Q => tk σ H fun x H1 => tv σ H1 fun y H2 => tPairs r σ H2 fun ps H3 => Q ((x, y) :: ps) H3
abbrev VV : List (V × V) → List (Value × Value) → Prop := Paired fun p q => RelV p.1 q.1 ∧ RelV p.2 q.2
def PPs (X : Cx) (pos : Pos) (keys : List (Option Expr)) (values : List Expr) (trs : List (TE × TE)) : Prop :=
  ∀ (pins : List (Addr × Obj)) (s : Shared) (σ : St) (H : Hp) (Q : List (V × V) → Hp → Prop), Inv X pins σ H s → tPairs trs σ H Q →
    wpAny (model X.prog X.w) X.A (evalPairs (pairTrees keys values X.env pos)) (fun vs s' => ∃ ps H', Inv X pins σ H' s' ∧ VV ps vs ∧ Q ps H') X.xe s
theorem pps_nil {X : Cx} {pos : Pos} : PPs X pos [] [] [] := fun pins s σ H Q I h => pairTrees_nil_walk ⟨[], H, I, .nil, h⟩
theorem pps_cons {X : Cx} {pos : Pos} {k v : Expr} {ks : List (Option Expr)} {vs : List Expr} {tk tv : TE} {trs : List (TE × TE)} (hk : PE X k tk) (hv : PE X v tv) (hr : PPs X pos ks vs trs) :
    PPs X pos (some k :: ks) (v :: vs) ((tk, tv) :: trs) := fun pins s σ H Q I h =>
  pairTrees_cons_walk (thn (hk pins s σ H _ I h) fun u s1 ⟨x, H1, I1, rx, q1⟩ => thn (hv pins s1 σ H1 _ I1 q1) fun w2 s2 ⟨y, H2, I2, ry, q2⟩ =>
    thn (hr pins s2 σ H2 _ I2 q2) fun ws s3 ⟨ps, H3, I3, rel, q3⟩ => ⟨(x, y) :: ps, H3, I3, .cons ⟨rx, ry⟩ rel, q3⟩)

def mergeK (kvs more : List (Key × V)) : List (Key × V) := more.foldl (fun acc kv => putK acc kv.1 kv.2) kvs
theorem KV.merge : ∀ {more : List (Key × V)} {rs : List (Key × Value)} {kvs : List (Key × V)} {vs : List (Key × Value)}, KV more rs → KV kvs vs → KV (mergeK kvs more) (merged vs rs) := by
  intro more rs kvs vs r
  unfold KV at r
  induction r generalizing kvs vs with
  | nil => intro q; exact q
  | @cons p q ps qs h t ih =>
    intro r0
    have e : KV (putK kvs p.1 p.2) (stored vs q.1 q.2) := by
      have := r0.put p.1 h.2
      rw [← h.1]; exact this
    exact ih e
theorem length_mergeK : ∀ (more kvs : List (Key × V)), (mergeK kvs more).length ≤ kvs.length + more.length
  | [], kvs => by show kvs.length ≤ kvs.length + 0; omega
  | p :: r, kvs => by
    have h1 := length_mergeK r (putK kvs p.1 p.2)
    have h2 := length_putK kvs p.1 p.2
    show (mergeK (putK kvs p.1 p.2) r).length ≤ _
    rw [List.length_cons]; omega
theorem carries_of {P : Program} {w : World} : ∀ {kvs : List (Key × V)} {ws : List (Value × Value)}, VV (kvs.map fun kv => (kV kv.1, kv.2)) ws → ∃ rs, Carries (mixKind P w) ws rs ∧ KV kvs rs
  | [], _, r => by rw [List.map_nil] at r; cases r; exact ⟨[], True.intro, .nil⟩
  | p :: kvs, _, r => by
    rw [List.map_cons] at r
    cases r with
    | @cons a b as bs h t =>
      obtain ⟨rs, c, q⟩ := carries_of (P := P) (w := w) t
      obtain ⟨b1, b2⟩ := b
      exact ⟨(p.1, b2) :: rs, ⟨kV_is h.1, rfl, c⟩, .cons ⟨rfl, h.2⟩ q⟩
/-- {k: v, ..} with keys ints and texts; the new dict stands empty while the pairs are made -/
def tDisp (trs : List (TE × TE)) : TE := fun σ H Q => ∀ p, H p = none → tPairs trs σ (upd H p (.dK [])) fun ps H2 => H2 p = some (.dK []) ∧ ∃ kvs : List (Key × V), ps = kvs.map (fun kv => (kV kv.1, kv.2)) ∧ kvs.length ≤ 15 ∧ Q (.ref p) (upd H2 p (.dK (mergeK [] kvs)))
theorem pe_disp {X : Cx} {pos : Pos} {keys : List (Option Expr)} {values : List Expr} {trs : List (TE × TE)} (h : PPs X pos keys values trs) (hall : keys.all (·.isSome) = true) (hl : keys.length = values.length) (h0 : keys ≠ [])
    (h15 : keys.length ≤ 15) : PE X (.Dict keys values pos) (tDisp trs) := by
  intro pins s σ H Q I q
  have hn := I.hok.fresh (Nat.le_refl s.heap.objs.size)
  have I1 := I.laid (a := s.heap.objs.size) (o := .dK []) (h' := s.heap.push { cls := .type "dict", data := .dict #[] }) (t' := s.toks) (fun _ _ q => Heap.get?_push_of_some _ q) (Nat.le_refl _) (dk_empty s.heap I.big)
  refine wpAny_Dict_walk (knd := mixKind X.prog X.w) hall hl h0 h15 (thn (h pins _ σ _ _ I1 (q _ hn)) fun ws s2 ⟨ps, H2, I2, rel, e, kvs, ep, lk, q2⟩ => ?_)
  subst ep
  obtain ⟨rs, c, rk⟩ := carries_of (P := X.prog) (w := X.w) rel
  obtain ⟨z, hd, vs0, r0, dd⟩ := dk_of I2.hok e
  cases r0
  refine ⟨rs, c, dd, fun h' dd' hs => ⟨.ref s.heap.objs.size, _, ?_, rfl, q2⟩⟩
  have hz : (mergeK [] kvs).length ≤ sizeLine := by
    have h1 := length_mergeK kvs []
    rw [List.length_nil] at h1
    rw [sizeLine_eq]; omega
  have he : ∃ q, h'.get? s.heap.objs.size = some q := let ⟨q, _, _, hq, _⟩ := dd'; ⟨q, hq⟩
  exact d_write I2 (by rw [e]; exact True.intro) hs he (dk_new hz hd (rk.merge .nil) dd')

/-! ### methods -/
/-- a method call o.m(e) of a built-in, with one argument: what must be seen of the text -/
structure M1 (X : Cx) (o : Expr) (m : Str) (apos : Pos) (e : Expr) (cpos : Pos) : Prop where
  base : attributeBase o m X.env (eval o X.env) = eval o X.env
  few : ((backTo cpos (starEach [e] X.env)).all (fun x => !x.1) && (backToKw cpos (keywordEach [] X.env)).all (fun x => x.1.isSome)
    && decide (([e] : List Expr).length + ([] : List Keyword).length + (if ([] : List Keyword).isEmpty then 0 else 1) < 30)) = true
  line : (apos.endLine == cpos.line) = true
  trees : backTo cpos (starEach [e] X.env) = [(false, eval e X.env)]
structure M2 (X : Cx) (o : Expr) (m : Str) (apos : Pos) (e f : Expr) (cpos : Pos) : Prop where
  base : attributeBase o m X.env (eval o X.env) = eval o X.env
  few : ((backTo cpos (starEach [e, f] X.env)).all (fun x => !x.1) && (backToKw cpos (keywordEach [] X.env)).all (fun x => x.1.isSome)
    && decide (([e, f] : List Expr).length + ([] : List Keyword).length + (if ([] : List Keyword).isEmpty then 0 else 1) < 30)) = true
  line : (apos.endLine == cpos.line) = true
  trees : backTo cpos (starEach [e, f] X.env) = [(false, eval e X.env), (false, eval f X.env)]

/-- a is a dict, whatever its keys -/
def IsD (H : Hp) (a : Addr) : Prop := (∃ kvs, Rd H a (.dK kvs)) ∨ ∃ kvs, Rd H a (.dT kvs)

section
variable {X : Cx} {pins : List (Addr × Obj)} {σ : St} {H : Hp} {s : Shared} {a : Addr} {y d : V} {u r : Value} {o : Option V} {A : Around} {E : Value → Shared → Prop}
end

def tDGet1 (td ty : TE) : TE := fun σ H Q => td σ H fun x H1 => ∃ a, x = .ref a ∧ IsD H1 a ∧ ty σ H1 fun y H2 => ∃ o, DGet H2 a y o ∧ Q (o.getD .non) H2
def tDGet2 (td ty tx : TE) : TE := fun σ H Q => td σ H fun x H1 => ∃ a, x = .ref a ∧ IsD H1 a ∧ ty σ H1 fun y H2 => tx σ H2 fun z H3 => ∃ o, DGet H3 a y o ∧ Q (o.getD z) H3
/-- d.pop(k): there; d.pop(k, x): there or not -/
def tDPop1 (td ty : TE) : TE := fun σ H Q => td σ H fun x H1 => ∃ a, x = .ref a ∧ IsD H1 a ∧ ty σ H1 fun y H2 => ∃ kvs k v, H2 a = some (.dK kvs) ∧ y = kV k ∧ valV kvs k = some v ∧ Q v (upd H2 a (.dK (dropK kvs k)))
def tDPop2 (td ty tx : TE) : TE := fun σ H Q => td σ H fun x H1 => ∃ a, x = .ref a ∧ IsD H1 a ∧ ty σ H1 fun y H2 => tx σ H2 fun z H3 => ∃ kvs k, H3 a = some (.dK kvs) ∧ y = kV k ∧
  (∀ v, valV kvs k = some v → Q v (upd H3 a (.dK (dropK kvs k)))) ∧ (valV kvs k = none → Q z H3)
section
variable {X : Cx} {o e f : Expr} {apos cpos : Pos} {td ty tx : TE}
end

/-! ### dict(d): a copy -/
section
variable {X : Cx} {pins : List (Addr × Obj)} {σ : St} {H : Hp} {s : Shared} {a : Addr} {kvs : List (Key × V)} {A : Around} {E : Value → Shared → Prop}
end

section
variable {X : Cx} {pins : List (Addr × Obj)} {σ : St} {H : Hp} {s : Shared} {a : Addr} {y : V} {u : Value} {A : Around} {E : Value → Shared → Prop}
end
end L2

namespace Att
open PySem PySem.W PySem.Calls PyProof.Rows

/-! ### the script -/
theorem ints_of_wellAll {P : Params} {h : Heap} : ∀ (ns : List Int) (vs : List Value), WellAll P h vs (ns.map WData.int) → IntsAre vs ns := by
  intro ns
  induction ns with
  | nil =>
    intro vs w
    rw [List.map_nil] at w
    cases w
    exact .nil
  | cons n ns ih =>
    intro vs w
    rw [List.map_cons] at w
    cases w with
    | cons a b =>
      cases a
      exact .cons _ _ (ih _ b)

theorem script_of {l : OpenLaw} {n : Nat} (hn : l.most = some n) {P : Params} {h : Heap} {args : List WData} {vals : List Value}
    (hpre : l.row.toRowW.claim.pre args = true) (hwl : WellAll P h vals args) :
    ∃ a vs ns, vals = [Value.ref a] ∧ args = [WData.list (ns.map WData.int)] ∧ h.get? a = some { cls := .type "list", data := .seq vs.toArray } ∧ IntsAre vs ns ∧ ns.length ≤ n := by
  have hsh : WShape.hasAll [] args [.list .int] = true := (pre_splitW hpre).1
  have hc : l.pre.holds [] { args := args } = true := (pre_splitW hpre).2
  obtain ⟨d, r, rfl, h1, h2⟩ := hasAllW_cons hsh
  obtain rfl := hasAllW_nil h2
  obtain ⟨xs, rfl, h3⟩ := hasW_list h1
  obtain ⟨ns, rfl⟩ := items_int h3
  have hlen : ns.length ≤ n := by
    unfold OpenLaw.pre at hc
    have h4 : (WTm.not (.lt (.lit (.int (n : Int))) (.len (.arg 0)))).holds [] { args := [.list (ns.map .int)] } = true := by
      have h4 := (holds_andW hc).1
      rw [hn] at h4
      exact h4
    have h5 := condW_of h4 (w_not (w_lt w_lit (w_len_list (w_arg rfl))))
    rw [List.length_map] at h5
    refine Nat.le_of_not_lt fun q => ?_
    have q' : (n : Int) < ((ns.length : Nat) : Int) := by omega
    first
      | (rw [decide_eq_true q'] at h5; exact absurd h5 (by decide))
      | (simp at h5; omega)
  cases hwl with
  | cons w1 w2 =>
    cases w2
    cases w1 with
    | list ho hall => exact ⟨_, _, ns, rfl, rfl, ho, ints_of_wellAll ns _ hall, hlen⟩

theorem post_true (l : OpenLaw) (args : List WData) : l.row.toRowW.claim.post args (.bool true) args = true :=
  postW_of (r := l.row.toRowW) (X := (true == true))
    (show WShape.has [] (.bool true) .bool = true by first | rfl | decide | simp [WShape.has, WShape.arms, WShape.armsAll])
    (show (WTm.eq .res (.lit (.bool true))).value [] { args := args, res := some (.bool true), after := args } = some (.bool (true == true)) from w_eq_bool (w_res rfl) w_lit) rfl

/-! ### the attachment: holds_open's last premise (the goal 'hc' behind k_head) from a wpAny of the law's body -/

/-- the same from a codeAny of the CALL (for a layer whose function contracts speak of calls) -/
theorem attach_call {l : OpenLaw} {n : Nat} {q : Program} {loose : List Str} {XP : (Str → Option Value) → Heap → Prop} {YP : World → Heap → Prop} {d : DefRec}
    (hn : l.most = some n) (hdf : d.params.defaults = [])
    (call : ∀ (w : World) (s₀ s₁ : Shared) (mg mb : Str → Option Value) (fa : Addr) (o : Obj) (pm cd doc : Value) (a : Addr) (vs : List Value) (ns : List Int),
      Ground q loose [] XP w s₀ mg mb s₁.heap → YP w s₁.heap →
      s₁.heap.get? fa = some o → o.data = .func (docDef d.name d.params d.body d.scope pm cd doc) → s₁.heap.CodeRec cd d.name → mg d.name = some (.ref fa) →
      s₁.heap.get? a = some { cls := .type "list", data := .seq vs.toArray } → IntsAre vs ns → ns.length ≤ n → s₁.gens = #[] →
      codeAny (model l.prog w) callerA (.call (.ref fa) ⟨[.ref a], []⟩) (fun r s' => r = .ok (.ret (.bool true)) ∧ OldK s₁.heap s'.heap ∧ s'.os = s₁.os ∧ AllBare s'.gens) s₁) :
    WalkO q loose XP YP l.row.toRowW d [] (fun f vs => PySem.call f vs) := by
  intro w s₀ s₁ mg mb G Y fa o pm cd doc dV kV ho hd hcd hD hmg hg args vals as hpre hlay hrd hwl hlo
  obtain rfl : dV = .none := Dflts.none hD hdf
  obtain rfl : kV = .none := Dflts.noKw hD
  obtain ⟨a, vs, ns, rfl, rfl, hobj, hints, hlen⟩ := script_of hn hpre hwl
  refine enter_call (codeAny_mono (call w s₀ s₁ mg mb fa o pm cd doc a vs ns G Y ho (fd_plain hd) hcd hmg hobj hints hlen hg) fun r s' hq => ?_)
  obtain ⟨rfl, h2, h3, h4⟩ := hq
  exact ⟨.inl ⟨.bool true, .bool true, [], rfl, fun _ => rfl, .bool true, post_true l _, fun _ => ⟨List.Pairwise.nil, fun _ hm => (nomatch hm)⟩⟩, h2, h3, h4⟩

/-! ### rules over ANY heap (no ledger) from facts about the written part K: the library's own take a ledger (News) for what they write -/
section
variable {prog : Program} {w : World} {A : Around} {E : Value → Shared → Prop} {s : Shared} {K : Frag}

/-! the whole heap as the ledger: makes every rule that writes through a ledger a rule over any heap -/
def noObjs (h : Heap) : Heap := { h with objs := #[] }
def ledger (h : Heap) (L d : Addr) : List (Addr × Obj) := (List.range h.objs.size).filterMap fun a => if a = L ∨ a = d then none else (h.get? a).map fun o => (a, o)

end
end Att

namespace L2
open PySem PySem.Spec PyProof.Rows

theorem vals_ints : ∀ {vs : List Value} {ns : List Int}, IntsAre vs ns → Vals (ns.map V.int) vs
  | _, _, .nil => .nil
  | _, _, .cons n t h => .cons ⟨t, rfl⟩ (vals_ints h)

/-- nothing is tracked but the script, known to the object (or it is an object of the module) -/
def Only (H : Hp) : Prop := ∀ b, H b = none ∨ ∃ o xs, H b = some (.frz o (.lst xs))

/-- THE HEAD: the law's promise, at the heap behind the top. F, the promise of the law's def, may use that base is part of the heap (so K.In base, base.Ns mainGlobals mg stand in Mod) -/
theorem law_call {P : Program} {w : World} {K : PySem.W.Frag} {mg mb : Str → Option Value} {CX : CXT} {k : Nat} {fa a : Addr} {fd : FuncData} {x : Str} {sp : Sp} {s₁ : Shared} {vs : List Value} {ns : List Int}
    (KX : K.In s₁.heap) (hns : s₁.heap.Ns mainGlobals mg) (hb : s₁.heap.Ns builtinsNs mb) (hbb : ∀ x : Str, x ≠ "__name__" → mb x = bootBuiltins x) (hlim : s₁.heap.NoLimit) (hg : s₁.gens = #[])
    (ha : s₁.heap.get? a = some { cls := .type "list", data := .seq vs.toArray }) (hi : IntsAre vs ns) (hl : ns.length ≤ sizeLine) (hr : Room k callerA)
    (F : ∀ base : Heap, K.In base → base.Ns mainGlobals mg → FnOk P w K mg base CX k fa fd [x] sp) (hbind : ∀ (s : Shared) (u : Value), BindsTo s fd ⟨[u], []⟩ [(x, u)])
    (hsp : ∀ H : Hp, Only H → SqL K H a (ns.map V.int) → sp [.ref a] H (fun v _ => v = .bl true) fun _ _ _ => False)
    (hCX : ∀ H e s', CX [] H s₁ (fun _ _ _ => False) e s' → False) :
    codeAny (model P w) callerA (.call (.ref fa) ⟨[.ref a], []⟩) (fun r s' => r = .ok (.ret (.bool true)) ∧ OldK s₁.heap s'.heap ∧ s'.os = s₁.os ∧ AllBare s'.gens) s₁ := by
  have rv := vals_ints hi
  have lenV := hi.length
  -- from an abstract heap in which nothing but the script may be tracked
  have core : ∀ H : Hp, Only H → SqL K H a (ns.map V.int) → HOk P w H s₁.heap → (∀ b, H b ≠ none → b = a) → (H a ≠ none → K.lookup a = none) →
      codeAny (model P w) callerA (.call (.ref fa) ⟨[.ref a], []⟩) (fun r s' => r = .ok (.ret (.bool true)) ∧ OldK s₁.heap s'.heap ∧ s'.os = s₁.os ∧ AllBare s'.gens) s₁ := by
    intro H hO hS hok hA hK
    have base_of : ∀ {b : Addr} {o : Obj}, s₁.heap.get? b = some o → H b = none → (hidT s₁.heap H).get? b = some o := fun e n => hidT_get e n
    have noA : ∀ {b : Addr} {o : Obj} {es : Array DictEntry} {ep : Nat}, s₁.heap.get? b = some o → o.data = .dict es ep → H b = none := fun {b o es ep} e d => by
      cases q : H b with
      | none => rfl
      | some u =>
        have e' : b = a := hA b (by rw [q]; simp)
        subst e'
        rw [ha] at e; cases e
        have d' : Data.seq vs.toArray _ = Data.dict es ep := d
        cases d'
    have nsK : ∀ {b : Addr} {m : Str → Option Value}, s₁.heap.Ns b m → (hidT s₁.heap H).Ns b m := fun {b m} ⟨o, es, ep, e, d, r⟩ => ⟨o, es, ep, base_of e (noA e d), d, r⟩
    have hKb : K.In (hidT s₁.heap H) := fun b o e => base_of (KX b o e) (by
      cases q : H b with
      | none => rfl
      | some u =>
        have e' : b = a := hA b (by rw [q]; simp)
        subst e'
        rw [hK (by rw [q]; simp)] at e; cases e)
    have hM : Mod K mg (hidT s₁.heap H) := ⟨hKb, nsK hns, ⟨mb, nsK hb, hbb⟩, let ⟨mc, h1, h2⟩ := hlim; ⟨mc, nsK h1, h2⟩⟩
    have e0 : Env0 P w K mg (hidT s₁.heap H) callerA [] s₁ H := ⟨rfl, hM, fun b o e => of_hidT e, Nat.le_of_eq (hidT_size _ _), trivial, fun b hb => absurd (show b ∈ ([] : List Addr) from hb) (by simp), hok, .of_eq hg⟩
    refine codeAny_mono ((F _ hKb (nsK hns)).run callerA [] s₁ H ⟨[.ref a], []⟩ [.ref a] [.ref a] _ _ hr e0 (hbind s₁ (.ref a)) (.cons rfl .nil) (hsp H hO hS)) fun r s' h => ?_
    cases r with
    | error e => exact (hCX H e s' h).elim
    | ok fl =>
      cases fl with
      | next => exact False.elim h
      | brk => exact False.elim h
      | cont => exact False.elim h
      | ret u =>
        obtain ⟨v, H', os, bare, un, hok', r', q⟩ := h
        have q' : v = .bl true := q
        subst q'
        obtain rfl : u = Value.bool true := r'
        refine ⟨rfl, OldK.of_keep fun b o e => ?_, os, bare⟩
        cases q : H b with
        | none => exact un.keep b o e q (by intro z; exact absurd (show b ∈ ([] : List Addr) from z) (by simp)) (by simp)
        | some u =>
          rcases hO b with z | ⟨ob, xs, z⟩
          · rw [q] at z; cases z
          · have z2 := un.frzs b ob _ z
            obtain ⟨e1, _⟩ := hok b _ z
            obtain ⟨e2, _⟩ := hok' b _ z2
            rw [e] at e1; cases e1
            exact e2
  cases hk : K.lookup a with
  | some o =>
    -- the script is one of the module's own objects
    have e := KX a o hk
    rw [ha] at e
    cases e
    refine core (fun _ => none) (fun _ => .inl rfl) (.inr ⟨_, vs.toArray, _, hk, rfl, rfl, rfl, by rw [List.size_toArray, lenV]; exact hl, by simpa using rv⟩) (fun b u z => by have z' : (none : Option HO) = some u := z; cases z') (fun b z => absurd rfl z) fun z => absurd rfl z
  | none =>
    refine core (fun b => if b = a then some (.frz { cls := .type "list", data := .seq vs.toArray } (.lst (ns.map V.int))) else none) (fun b => ?_) (.inl (.inr ⟨{ cls := .type "list", data := .seq vs.toArray }, if_pos rfl⟩)) (fun b u z => ?_) (fun b z => ?_) fun _ => hk
    · by_cases hb : b = a
      · exact .inr ⟨_, _, if_pos hb⟩
      · exact .inl (if_neg hb)
    · by_cases hb : b = a
      · have z' := (if_pos hb).symm.trans z
        cases z'
        subst hb
        exact ⟨ha, by rw [List.length_map]; exact hl, vs, _, rv, ha⟩
      · have z' := (if_neg hb).symm.trans z
        cases z'
    · by_cases hb : b = a
      · exact hb
      · exact absurd (if_neg hb) z
end L2

namespace L2
open PySem PySem.Spec PyProof.Rows

abbrev KOf {K : PySem.W.Frag} {h : Heap} (_ : K.In h) : PySem.W.Frag := K

/-- the goal that k_head leaves (case hc), from the law's promise. F gives the function object fd (K's own) once, then the promise over every base -/
theorem walk_of {l : PySem.W.OpenLaw} {n k : Nat} {q : Program} {loose : List Str} {XP : (Str → Option Value) → Heap → Prop} {YP : World → Heap → Prop} {d : DefRec} {K : Params → PySem.W.Frag} {CX : World → CXT} {sp : World → Sp} {x : Str}
    (hn : l.most = some n) (hn2 : n ≤ sizeLine) (hdf : d.params.defaults = []) (hr : Room k callerA)
    (hY : ∀ (w : World) (h : Heap), YP w h → (K w.params).In h)
    (F : ∀ (w : World) (mg : Str → Option Value) (fa : Addr) (h : Heap), (K w.params).In h → h.Ns mainGlobals mg → mg d.name = some (.ref fa) →
      ∃ fd : FuncData, (∀ (s : Shared) (u : Value), BindsTo s fd ⟨[u], []⟩ [(x, u)]) ∧
        ∀ base : Heap, (K w.params).In base → base.Ns mainGlobals mg → FnOk l.prog w (K w.params) mg base (CX w) k fa fd [x] (sp w))
    (hsp : ∀ (w : World) (H : Hp) (a : Addr) (ns : List Int), ns.length ≤ n → Only H → SqL (K w.params) H a (ns.map V.int) → sp w [.ref a] H (fun v _ => v = .bl true) fun _ _ _ => False)
    (hCX : ∀ (w : World) (H : Hp) (s : Shared) (e : Value) (s' : Shared), CX w [] H s (fun _ _ _ => False) e s' → False) :
    PySem.W.WalkO q loose XP YP l.row.toRowW d [] (fun f vs => PySem.call f vs) := by
  refine Att.attach_call hn hdf fun w s₀ s₁ mg mb fa o pm cd doc a vs ns G Y ho hd hcd hmg hobj hints hlen hg => ?_
  have KX := hY w _ Y
  obtain ⟨fd, hb, hF⟩ := F w mg fa _ KX G.T.g hmg
  exact law_call KX G.T.g G.T.b G.T.builtins G.T.nolimit hg hobj hints (Nat.le_trans hlen hn2) hr hF hb (fun H hO hS => hsp w H a ns hlen hO hS) fun H e s' => hCX w H s₁ e s'
end L2

/- THE LAST THEOREM (shape; LID, My.* are yours):
   My.Adr: a structure of the addresses that your layer names (classes, functions); My.Txt K t: a structure (Prop) of the equations over K;
   My.txt_mk : {K} {implicit addresses ..} (e1 : nsIn K mainGlobals "law" = some (some (.ref f))) (e2 : K.lookup f = some ⟨oc, od, .func (fnOf "law" "law" params body scope dV kV doc pm an cdv ct), sl⟩) (e3 : codeIn K cdv "law" = true) .. : ∃ t, My.Txt K t

set_option maxRecDepth 100000 in
set_option maxHeartbeats 0 in
theorem PySem.Challenge.cw_LID_holds : PySem.Challenge.rw_LID.Holds := by
  w_on; o_law; k_head; (case hw => w_witness2)
  k_fill
  refine L2.walk_of (l := PySem.Challenge.rw_LID) (n := 63) (k := 40) (x := "script") (CX := fun w => ..) (sp := fun _ => My.sp_law) rfl (by decide) rfl ⟨rfl, by decide, by decide⟩ (fun w h Y => PySem.W.kIn_of Y) ?F ?S ?C
  case F =>
    intro w mg fa h KX G hmg
    have T : ∃ t, My.Txt (L2.KOf KX) t := by
      dsimp only [L2.KOf]                          -- K must stand as «<heap const> w.params» for k_is
      refine' My.txt_mk ?e1 ?e2 ?e3 ..
      (case e1 => PySem.W.k_is)                    -- in the order: a name -> its address -> its object -> its parts
      (case e2 => PySem.W.k_is)
      ..
    obtain ⟨t, T⟩ := T
    have e0 := hmg.symm.trans (PySem.W.mg_of KX G T.law)
    cases e0                                       -- fa is the law's own address
    exact ⟨_, fun s u => .of_eq rfl, fun base kb nb => My.law_fn T kb nb⟩     -- if «.of_eq rfl» comes too early: refine' ⟨_, ?b, fun base kb nb => My.law_fn T kb nb⟩; exact fun s u => .of_eq rfl
  case S => exact fun w H a ns hl hO hS => ..
  case C => exact ..
(the tactic k_is has no namespace: write k_is) -/

/-! SHORT WORDS over the layer: a def of the text, its body, what a loop and a test want. -/
namespace L2
open PySem PySem.Spec PyProof.Rows

/-! ### the text by places -/
/-- the j-th statement of a class's body -/
def inClass (s : Stmt) (j : Nat) : Stmt := match s with
  | .ClassDef _ _ _ body _ _ _ _ _ _ _ => body.getD j (.Pass ⟨0, 0, 0, 0⟩)
  | _ => .Pass ⟨0, 0, 0, 0⟩
def defArgs (s : Stmt) : Arguments := match s with
  | .FunctionDef _ a _ _ _ _ _ _ _ _ => a
  | _ => { posonlyargs := [], args := [], vararg := none, kwonlyargs := [], kw_defaults := [], kwarg := none, defaults := [] }
def defBody (s : Stmt) : List Stmt := match s with
  | .FunctionDef _ _ b _ _ _ _ _ _ _ => b
  | _ => []
def defScope (s : Stmt) : Scope := match s with
  | .FunctionDef _ _ _ _ _ _ sc _ _ _ => sc
  | _ => { kind := .function, names := [], isGenerator := false, isCoroutine := false }

/-! ### no exception leaves a def -/
abbrev CX0 : CXT := fun _ _ _ _ _ _ => False
abbrev E0 : XK := fun _ _ _ => False
theorem pass0 {X : Cx} : Passes CX0 X E0 := fun _ _ _ _ _ _ _ h => h.elim

/-! ### a def (or method) of the text as it stands behind the top -/
structure Fun (K : PySem.W.Frag) (x qual : Str) (st : Stmt) (f : Addr) (fd : FuncData) : Prop where
  ex : ∃ (oc : Value) (od : Option Addr) (kV doc pm : Value) (an : Option Addr) (cdv ct : Value) (osl : Array (Option Value)),
    fd = PySem.W.fnOf x qual (defArgs st) (defBody st) (defScope st) .none kV doc pm an cdv ct ∧ K.lookup f = some ⟨oc, od, .func fd, osl⟩ ∧ PySem.W.codeIn K cdv qual = true
  kp : PySem.W.keepIn K (.ref f) = true
section
variable {P : Program} {w : World} {K : PySem.W.Frag} {mg : Str → Option Value} {base : Heap}
/-- THE RULE for a def: its body as a term of rules, and the reading of that term -/
theorem Fun.ok {x qual : Str} {st : Stmt} {f : Addr} {fd : FuncData} {N ps : List Str} {k : Nat} {sp : Sp} (F : Fun K x qual st f fd) (S : FnScope N ps (defScope st)) (len : ∀ vs H Q E, sp vs H Q E → vs.length = ps.length)
    (hbody : ∀ (cdv : Value) (A : Around) (outer : List Env) (s : Shared) (H : Hp) (vs : List V) (Q : VK) (E : XK), Room k (A.deeper (envOfC qual (defScope st) s.heap.objs.size f cdv)) → sp vs H Q E →
      ∃ t, PSs (cxOf CX0 P w K mg base N qual (defScope st) f cdv A outer s H E).nox (defBody st) t ∧ t { nx := fun _ H' => Q .non H', rt := Q } (start N vs) H) : FnOk P w K mg base CX0 (k + 1) f fd ps sp := by
  obtain ⟨oc, od, kV, doc, pm, an, cdv, ct, osl, rfl, lk, hcd⟩ := F.ex
  refine fn_of lk hcd S len fun A outer s H vs Q E hr hsp => ?_
  obtain ⟨t, h, q⟩ := hbody cdv A outer s H vs Q E hr hsp
  exact ⟨t, h.nox, q⟩
/-- how its arguments bind (no defaults): h is «fun _ _ _ _ _ _ us hl => match us, hl with | [_, _], _ => rfl», one _ a parameter -/
theorem Fun.binds {x qual : Str} {st : Stmt} {f : Addr} {fd : FuncData} {ps : List Str} (F : Fun K x qual st f fd)
    (h : ∀ (kV doc pm : Value) (an : Option Addr) (cdv ct : Value) (us : List Value), us.length = ps.length → bindArgs (PySem.W.fnOf x qual (defArgs st) (defBody st) (defScope st) .none kV doc pm an cdv ct) ⟨us, []⟩ = pure (ps.zip us)) : Binds K fd ps [] := by
  obtain ⟨oc, od, kV, doc, pm, an, cdv, ct, osl, rfl, lk, hcd⟩ := F.ex
  exact .all (h kV doc pm an cdv ct)
theorem fun_mk {x qual : Str} {st : Stmt} {f : Addr} {oc : Value} {od an : Option Addr} {osl : Array (Option Value)} {kV doc pm cdv ct : Value} (l : K.lookup f = some ⟨oc, od, .func (PySem.W.fnOf x qual (defArgs st) (defBody st) (defScope st) .none kV doc pm an cdv ct), osl⟩)
    (c : PySem.W.codeIn K cdv qual = true) (k : PySem.W.keepIn K (.ref f) = true) : Fun K x qual st f (PySem.W.fnOf x qual (defArgs st) (defBody st) (defScope st) .none kV doc pm an cdv ct) := ⟨⟨oc, od, kV, doc, pm, an, cdv, ct, osl, rfl, l, c⟩, k⟩
end
theorem hu_of {A : Around} {k : Nat} (hr : Room k A) : A.units + 1 < cLine := Nat.lt_of_le_of_lt (Nat.add_le_add_left (by decide : 1 ≤ 64) _) hr.units
theorem small1000 {n : Nat} (h : n ≤ 1000) : n < sizeLine := Nat.lt_of_le_of_lt h (by decide)

/-! ### expressions in short: the name that stands in the i-th slot -/
section
variable {X : Cx}
theorem pv (i : Nat) {x : Str} {pos : Pos} (hN : X.N[i]? = some x := by rfl) (hv : Vis X.env.scope x := by first | exact Or.inl rfl | exact Or.inr (Or.inl rfl) | exact Or.inr (Or.inr rfl)) (hd : (x == ("__debug__" : Str)) = false := by decide)
    (hcd : (x == ("__classdict__" : Str)) = false := by decide) : PE X (.Name x pos) (tVar i) := pe_var hN hv hd hcd
end

/-! ### tests -/
theorem iteF {A B : Prop} (h : B) : if false = true then A else B := by
  rw [if_neg Bool.false_ne_true]
  exact h
theorem iteT {A B : Prop} (h : A) : if true = true then A else B := by
  rw [if_pos rfl]
  exact h
theorem ite2 {c A B : Prop} [Decidable c] (h1 : c → A) (h2 : ¬ c → B) : if c then A else B := by
  by_cases h : c
  · rw [if_pos h]
    exact h1 h
  · rw [if_neg h]
    exact h2 h

/-! ### heaps -/
/-- all that was tracked is as it was -/
def Same (H H' : Hp) : Prop := ∀ b o, H b = some o → H' b = some o
theorem Same.refl (H : Hp) : Same H H := fun _ _ h => h
theorem Same.trans {H H1 H2 : Hp} (a : Same H H1) (b : Same H1 H2) : Same H H2 := fun c o h => b c o (a c o h)
theorem Same.free {H H' : Hp} (e : Same H H') {l : Addr} (h : H' l = Option.none) : H l = Option.none := by
  cases q : H l with
  | none => rfl
  | some o =>
    rw [e l o q] at h
    cases h
theorem Same.seq {K : PySem.W.Frag} {H H' : Hp} {a : Addr} {xs : List V} (e : Same H H') (h : SqL K H a xs) : SqL K H' a xs := by
  rcases h with (h | ⟨o, h⟩) | h
  · exact .inl (.inl (e _ _ h))
  · exact .inl (.inr ⟨o, e _ _ h⟩)
  · exact .inr h

/-! ### a dict's pairs: keys that differ -/
section
variable {κ : Type} [DecidableEq κ]
theorem valV_in {kvs : List (κ × V)} {k : κ} {v : V} (h : valV kvs k = some v) : k ∈ kvs.map (·.1) := by
  have q : (kvs.any fun kv => decide (kv.1 = k)) = true := by
    rw [valV_any, h]
    all_goals rfl
  obtain ⟨p, hp, e⟩ := List.any_eq_true.mp q
  exact List.mem_map.mpr ⟨p, hp, of_decide_eq_true e⟩
end
end L2

set_option Elab.async false
set_option linter.all false
set_option maxRecDepth 100000
/-! own rules over the layer: iterators that yield a known list, texts walked, comprehensions -/
namespace L2
open PySem PySem.Spec PyProof.Rows

theorem Same.upd {H : Hp} {a : Addr} {o : HO} (h : H a = none) : Same H (upd H a o) := fun b u e => by rw [upd_ne (ne_of_none e h)]; exact e

/-- J yields the items of xs, one by one, over every heap that is Ok -/
structure ItIs (J : It) (Ok : Hp → Prop) (xs : List V) : Prop where
  go : ∀ i H, Ok H → i < xs.length → J.go i H
  yld : ∀ i H x H', Ok H → i < xs.length → J.yld i H x H' → H' = H ∧ xs[i]? = some x
  stop : ∀ H, Ok H → J.stop xs.length H
theorem itIs_list (K : PySem.W.Frag) (a : Addr) (xs : List V) : ItIs (Itl K a) (fun H => SqL K H a xs) xs :=
  ⟨fun i H q hi => ⟨xs, xs[i], q, by simp [hi]⟩, fun i H x H' q _ y => ⟨y.1, y.2 xs q⟩, fun H q => ⟨xs, q, Nat.le_refl _⟩⟩
/-- n values, the i-th is val i -/
def Itf (n : Nat) (val : Nat → V) : It := ⟨fun i _ => i < n, fun i H x H' => H' = H ∧ x = val i, fun i _ => n ≤ i⟩
theorem itIs_f {n : Nat} {val : Nat → V} {xs : List V} (hn : xs.length = n) (hv : ∀ i x, xs[i]? = some x → val i = x) : ItIs (Itf n val) (fun _ => True) xs := by
  subst hn
  refine ⟨fun i H _ hi => hi, fun i H x H' _ hi y => ⟨y.1, ?_⟩, fun H _ => Nat.le_refl _⟩
  have e : xs[i]? = some xs[i] := by simp [hi]
  rw [e, y.2, hv i _ e]
theorem itIs_range (lo : Int) (n : Nat) : ItIs (Itr lo n) (fun _ => True) ((List.range n).map fun i => V.int (lo + (i : Nat))) := by
  refine ⟨fun i H _ hi => (show i < n by simpa using hi), fun i H x H' _ hi y => ⟨y.1, ?_⟩, fun H _ => ?_⟩
  · have hi' : i < n := by simpa using hi
    rw [y.2]
    simp [hi']
  · show n ≤ _
    simp
/-- a for loop over such a thing -/
theorem for_is {J : It} {Ok : Hp → Prop} {xs : List V} {g : TG} {tb : TS} {D : Ends} {σ : St} {H : Hp} (hJ : ItIs J Ok xs) (Pv : Nat → St → Hp → Prop) (h0 : Pv 0 σ H) (hS : ∀ i σ H, i ≤ xs.length → Pv i σ H → Ok H)
    (hs : ∀ i x σ H, xs[i]? = some x → Pv i σ H → g x σ H fun σ2 H2 => tb { D with nx := Pv (i + 1), ct := Pv (i + 1), bk := D.nx } σ2 H2) (hd : ∀ σ H, Pv xs.length σ H → D.nx σ H) :
    ∃ W : Nat → Nat → St → Hp → Prop, (∃ m, W 0 m σ H) ∧ ∀ i m σ H, W i m σ H →
      (J.stop i H ∧ D.nx σ H) ∨ (J.go i H ∧ ∃ N : St → Hp → Prop, (∀ σ' H', N σ' H' → ∃ m', m' < m ∧ W (i + 1) m' σ' H') ∧ ∀ x H', J.yld i H x H' → g x σ H' fun σ2 H2 => tb { D with nx := N, ct := N, bk := D.nx } σ2 H2) := by
  refine ⟨fun i m σ H => m = xs.length - i ∧ i ≤ xs.length ∧ Pv i σ H, ⟨xs.length, by simp, Nat.zero_le _, h0⟩, ?_⟩
  rintro i m σ H ⟨rfl, hi, p⟩
  have q := hS i σ H hi p
  by_cases hlt : i < xs.length
  · refine .inr ⟨hJ.go i H q hlt, Pv (i + 1), fun σ' H' p' => ⟨xs.length - (i + 1), by omega, rfl, hlt, p'⟩, fun x H' y => ?_⟩
    obtain ⟨e, hy⟩ := hJ.yld i H x H' q hlt y
    subst e
    exact hs i x σ _ hy p
  · have e : i = xs.length := by omega
    subst e
    exact .inl ⟨hJ.stop H q, hd σ H p⟩

abbrev noTup (nm : String) : Prop := ["enumerate", "zip", "dict_itemiterator", "dict_reverseitemiterator", "odict_iterator", "itertools.zip_longest", "itertools.pairwise"].contains nm = false
/-- an iterator of the library that is one record of its own -/
theorem turn_walks {P : Program} {w : World} {K : PySem.W.Frag} {tg : Expr} {it : Addr} {n : Nat} {Pv : Nat → Value → Prop} {St : Nat → Heap → Prop} {val : Nat → V}
    (hW : ∀ A : Around, A.handled = none → Walks P w A it [it] [it] n Pv St)
    (hobj : ∀ i h, St i h → ∃ (o : Obj) (nm : String) (vs : Array Value), h.get? it = some o ∧ o.cls = .type nm ∧ o.data = .fields vs ∧ noTup nm)
    (hkeep : ∀ i h h', St i h → (∀ o, h.get? it = some o → h'.get? it = some o) → St i h')
    (hself : ∀ (A : Around) (i : Nat) (s : Shared) (Q : Value → Shared → Prop) (E : Value → Shared → Prop), St i s.heap → Q (.ref it) s → wpAny (model P w) A (pyIter (.ref it)) Q E s)
    (hval : ∀ i u, Pv i u → RelV (val i) u) : Turn P w K tg (Itf n val) [it] it (fun i h => St i h ∧ i ≤ n) where
  mem := by simp
  obj := fun i h st b hb => by
    have e : b = it := by simpa using hb
    subst e
    obtain ⟨o, nm, vs, e, c, d, _⟩ := hobj i h st.1
    exact ⟨o, e, fun v z => by rw [d] at z; cases z⟩
  keep := fun i h h' st k => ⟨hkeep i h h' st.1 fun o e => k it (by simp) o e, st.2⟩
  item := by
    intro X hP hw hK hc i pins s σ H E I hf st hg
    subst hP hw hK
    obtain ⟨f0, f1, f2, f3, f4, f5⟩ := hf it (by simp)
    refine (hW X.A (I.ok.hd hc)).item i s _ _ hg st.1 fun v h' tk hv st' kk => ?_
    have I1 : Inv X pins σ H { s with heap := h', toks := tk } := I.turned (fun b o hb e => kk b o (by simpa using hb) e) f0 f1 f3 f4 f5
    obtain ⟨o, nm, vs, e, c, d, hn⟩ := hobj _ _ st'
    exact ⟨_, rfl, go_of (s := { s with heap := h', toks := tk }) e c d hn ⟨val i, H, I1, hval i v hv, ⟨rfl, rfl⟩, ⟨st', hg⟩, fun b hb => (hf b hb).1⟩⟩
  done := by
    intro X hP hw hK hc i pins s σ H E I hf st hg
    subst hP hw hK
    obtain ⟨f0, f1, f2, f3, f4, f5⟩ := hf it (by simp)
    have e : i = n := by
      have h1 := st.2
      have h2 : n ≤ i := hg
      omega
    subst e
    exact (hW X.A (I.ok.hd hc)).done s _ _ st.1 fun h' tk kk => ⟨rfl, I.turned (fun b o hb e => kk b o (by simpa using hb) e) f0 f1 f3 f4 f5⟩
  self := fun A i s Q E st h => hself A i s Q E st.1 h

/-! ### a text walked sign by sign -/
def signV (z : Str) (i : Nat) : V := .str ⟨#[z.cps.getD i 0]⟩
def charsV (z : Str) : List V := z.cps.toList.map fun c => V.str ⟨#[c]⟩
theorem itIs_str (z : Str) : ItIs (Itf z.cps.size (signV z)) (fun _ => True) (charsV z) := by
  refine itIs_f (by simp [charsV]) fun i x h => ?_
  unfold charsV at h
  rw [List.getElem?_map] at h
  cases e : z.cps.toList[i]? with
  | none => rw [e] at h; cases h
  | some c =>
    rw [e] at h
    have h' : V.str ⟨#[c]⟩ = x := Option.some.inj h
    rw [← h']
    have e2 : z.cps[i]? = some c := by rw [← Array.getElem?_toList]; exact e
    unfold signV
    rw [Array.getD_eq_getD_getElem?, e2]
    rfl
def iStr (tl : TE) : TI := fun σ H R => tl σ H fun x H1 => ∃ z, x = .str z ∧ R (Itf z.cps.size (signV z)) H1
section
variable {X : Cx} {tg : Expr}
theorem pi_str {l : Expr} {tl : TE} (hl : PE X l tl) : PI X tg l (iStr tl) := by
  intro pins s σ H R I h
  refine thn (hl pins s σ H _ I h) fun v s1 ⟨x, H1, I1, r1, q1⟩ => ?_
  obtain ⟨z, e, q⟩ := q1
  subst e
  obtain ⟨t, rfl⟩ := r1
  have fin : ∀ (nm : String) (o : Obj), (∀ A' : Around, A'.handled = none → Walks X.prog X.w A' s1.heap.objs.size [s1.heap.objs.size] [s1.heap.objs.size] z.cps.size (SignAt z) (fun i h => h.IsStrIter s1.heap.objs.size nm z t i)) →
      (∀ (A : Around) (i : Nat) (s : Shared) (Q : Value → Shared → Prop) (E : Value → Shared → Prop), s.heap.IsStrIter s1.heap.objs.size nm z t i → Q (.ref s1.heap.objs.size) s → wpAny (model X.prog X.w) A (pyIter (.ref s1.heap.objs.size)) Q E s) →
      noTup nm → (s1.heap.push o).IsStrIter s1.heap.objs.size nm z t 0 → PIE X pins σ tg R (.ref s1.heap.objs.size) { s1 with heap := s1.heap.push o } := by
    intro nm o hW hself hnm hst
    refine ⟨s1.heap.objs.size, [s1.heap.objs.size], _, _, H1, rfl, I1.kept (t' := s1.toks) fun b o e => Heap.get?_push_of_some _ e,
      turn_walks (val := signV z) hW (fun i h st => ?_) (fun i h h' st k => ?_) hself (fun i u hu => ?_), ⟨hst, Nat.zero_le _⟩, fun b hb => ?_, q⟩
    · obtain ⟨o, e, c, d⟩ := st
      exact ⟨o, nm, _, e, c, d, hnm⟩
    · obtain ⟨o, e, c, d⟩ := st
      exact ⟨o, k o e, c, d⟩
    · obtain ⟨c, u', hc, e⟩ := hu
      refine ⟨u', ?_⟩
      rw [e, Array.getD_eq_getD_getElem?, hc]
      rfl
    · have e : b = s1.heap.objs.size := by simpa using hb
      subst e
      exact I1.fpOk (Nat.le_refl _) (I1.hok.fresh (Nat.le_refl _))
  cases ha : z.cps.all (· < 128)
  · exact wpAny_pyIter_wide ha (fin "str_iterator" _ (fun A' hA => Walks.strWide hA _ z t) (fun A i s Q E st h => wpAny_pyIter_striter_wide st h) (by decide) ⟨_, Heap.get?_push_size _ rfl, rfl, rfl⟩)
  · exact wpAny_pyIter_ascii ha (fin "str_ascii_iterator" _ (fun A' hA => Walks.strAscii hA _ z t) (fun A i s Q E st h => wpAny_pyIter_striter_ascii st h) (by decide) ⟨_, Heap.get?_push_size _ rfl, rfl, rfl⟩)
end

/-! ### a comprehension's block -/
theorem Un.sameBut {fs ex : List Addr} {H H' : Hp} {h h1 h2 : Heap} {L : Addr} (u : Un fs ex H H' h h1) (hs : ∀ b, b ≠ L → h2.get? b = h1.get? b) (hL : h.objs.size ≤ L) : Un fs ex H H' h h2 :=
  have ne : ∀ {b : Addr} {o : Obj}, h.get? b = some o → b ≠ L := fun e => Nat.ne_of_lt (Nat.lt_of_lt_of_le (Heap.lt_size e) hL)
  ⟨fun b o e n h1 h2 => (hs b (ne e)).trans (u.keep b o e n h1 h2), fun b o e n h1 h2 => let ⟨sl, q⟩ := u.slot b o e n h1 h2; ⟨sl, (hs b (ne e)).trans q⟩, u.free,
    fun b o e hx => let ⟨o', q⟩ := u.there b o e hx; ⟨o', (hs b (ne e)).trans q⟩, u.tups, u.frzs, u.tbls⟩

/-- the free names of the block are cells of the frame around it -/
def FreeIn (scope : Scope) (env : Env) : Prop := ∀ y ∈ scope.names, y.2 = .free → env.kindOf y.1 = some .cell ∨ env.kindOf y.1 = some .free

theorem closure_ok {env : Env} : ∀ {names : List (Str × NameKind)} (acc : List (Str × Addr)), (∀ y ∈ names, y.2 = .free → ∃ c, env.cells.lookup y.1 = some c) → (∀ y c, acc.lookup y = some c → env.cells.lookup y = some c) →
    ∃ cl : List (Str × Addr), (forIn names acc (fun (x : Str × NameKind) cs => (match x with | (name, kind) => if kind == .free then do let c ← cellOf env name; pure (ForInStep.yield ((name, c) :: cs)) else pure (ForInStep.yield cs) : Sem (ForInStep (List (Str × Addr)))))) = pure cl ∧
      (∀ y c, cl.lookup y = some c → env.cells.lookup y = some c) ∧ (∀ y c, acc.lookup y = some c → ∃ c', cl.lookup y = some c') ∧ ∀ y ∈ names, y.2 = .free → ∃ c, cl.lookup y.1 = some c
  | [], acc, _, ha => ⟨acc, rfl, ha, fun y c e => ⟨c, e⟩, fun _ h => nomatch h⟩
  | (n, k) :: r, acc, hf, ha => by
    rw [List.forIn_cons]
    by_cases hk : k = .free
    · obtain ⟨c, hc⟩ := hf (n, k) List.mem_cons_self hk
      have e1 : (k == NameKind.free) = true := by rw [hk]; rfl
      obtain ⟨cl, h1, h2, h3, h4⟩ := closure_ok (env := env) (names := r) ((n, c) :: acc) (fun y hy => hf y (List.mem_cons_of_mem _ hy)) (fun y c' e => by
        rw [List.lookup_cons] at e
        cases q : y == n with
        | true =>
          rw [q] at e
          have : c = c' := Option.some.inj e
          subst this
          have : y = n := eq_of_beq q
          subst this
          exact hc
        | false =>
          rw [q] at e
          exact ha y c' e)
      refine ⟨cl, ?_, h2, fun y c' e => ?_, fun y hy hyf => ?_⟩
      · rw [← h1]
        simp only [e1, if_true]
        have e2 : cellOf env n = pure c := by unfold cellOf; rw [hc]
        rw [e2]
        rfl
      · by_cases q : y = n
        · subst q
          exact h3 y c (by simp [List.lookup_cons])
        · refine h3 y c' ?_
          have : (y == n) = false := beq_eq_false_iff_ne.mpr q
          rw [List.lookup_cons, this]
          exact e
      · rcases List.mem_cons.mp hy with rfl | hy
        · exact h3 n c (by simp [List.lookup_cons])
        · exact h4 y hy hyf
    · have e1 : (k == NameKind.free) = false := by simpa using hk
      obtain ⟨cl, h1, h2, h3, h4⟩ := closure_ok (env := env) (names := r) acc (fun y hy => hf y (List.mem_cons_of_mem _ hy)) ha
      refine ⟨cl, ?_, h2, h3, fun y hy hyf => ?_⟩
      · rw [← h1]
        simp only [e1, Bool.false_eq_true, if_false]
        rfl
      · rcases List.mem_cons.mp hy with rfl | hy
        · exact absurd hyf hk
        · exact h4 y hy hyf
theorem closureFor_ok {scope : Scope} {env : Env} (hf : ∀ y ∈ scope.names, y.2 = .free → ∃ c, env.cells.lookup y.1 = some c) :
    ∃ cl, closureFor scope env = pure cl ∧ (∀ y c, cl.lookup y = some c → env.cells.lookup y = some c) ∧ ∀ y ∈ scope.names, y.2 = .free → ∃ c, cl.lookup y.1 = some c := by
  obtain ⟨cl, h1, h2, _, h4⟩ := closure_ok (env := env) (names := scope.names) [] hf (fun y c e => by simp at e)
  refine ⟨cl, ?_, h2, h4⟩
  simp only [closureFor]
  first
    | (rw [h1]; rfl)
    | (have h1' := h1; simp only at h1' ⊢; rw [h1']; rfl)
    | (refine Eq.trans (congrArg (fun m => m >>= fun cs => pure cs) ?_) ?_; exact pure cl; exact h1; rfl)

theorem relabel_free {scope : Scope} {env : Env} (hcell : ∀ y ∈ scope.names, y.2 ≠ .cell) {x : Str} (h : (relabel scope env).names.lookup x = some .cell ∨ (relabel scope env).names.lookup x = some .free) : ∃ k, (x, k) ∈ scope.names ∧ k = NameKind.free := by
  unfold relabel at h
  dsimp only at h
  have key : ∀ (names : List (Str × NameKind)), (∀ y ∈ names, y.2 ≠ .cell) →
      ((names.map fun (n, k) => if (k == NameKind.free && env.scope.kind == .function && env.kindOf n == some .cell) then (n, NameKind.cell) else (n, k)).lookup x = some .cell ∨
       (names.map fun (n, k) => if (k == NameKind.free && env.scope.kind == .function && env.kindOf n == some .cell) then (n, NameKind.cell) else (n, k)).lookup x = some .free) → ∃ k, (x, k) ∈ names ∧ k = NameKind.free := by
    intro names
    induction names with
    | nil => intro _ h; simp at h
    | cons y r ih =>
      obtain ⟨n, k⟩ := y
      intro hc h
      have hr := ih (fun y hy => hc y (List.mem_cons_of_mem _ hy))
      rw [List.map_cons] at h
      dsimp only at h
      by_cases hx : x = n
      · subst hx
        by_cases hk : k = .free
        · exact ⟨k, List.mem_cons_self, hk⟩
        · have e1 : (k == NameKind.free) = false := by simpa using hk
          simp only [e1, Bool.false_and, Bool.false_eq_true, if_false, List.lookup_cons, beq_self_eq_true] at h
          rcases h with h | h
          · exact absurd (Option.some.inj h) (hc (x, k) List.mem_cons_self)
          · exact absurd (Option.some.inj h) hk
      · have hb : (x == n) = false := beq_eq_false_iff_ne.mpr hx
        have h' : ∀ kk : NameKind, List.lookup x ((if (k == NameKind.free && env.scope.kind == .function && env.kindOf n == some .cell) = true then (n, NameKind.cell) else (n, k)) :: (r.map fun (n, k) => if (k == NameKind.free && env.scope.kind == .function && env.kindOf n == some .cell) then (n, NameKind.cell) else (n, k))) = some kk →
            (r.map fun (n, k) => if (k == NameKind.free && env.scope.kind == .function && env.kindOf n == some .cell) then (n, NameKind.cell) else (n, k)).lookup x = some kk := by
          intro kk e
          split at e
          · simpa only [List.lookup_cons, hb] using e
          · simpa only [List.lookup_cons, hb] using e
        obtain ⟨k', h1, h2⟩ := hr (h.imp (h' _) (h' _))
        exact ⟨k', List.mem_cons_of_mem _ h1, h2⟩
  exact key scope.names hcell h

/-- the context of a comprehension's block -/
def compCx (X : Cx) (scope : Scope) (N : List Str) (cl : List (Str × Addr)) (L : Addr) (s : Shared) (H : Hp) (ex : List Addr) (pn : List (Addr × Obj)) : Cx where
  prog := X.prog
  w := X.w
  K := X.K
  mg := X.mg
  base := X.base
  A := X.A
  N := N
  s₀ := s
  H₀ := H
  env := compEnvC scope cl L X.env
  outer := X.stack
  stack := X.stack
  ex := ex
  fn := fun _ => false
  calm := X.calm
  pn := pn
  xe := fun _ _ => False

/-- tests of a comprehension -/
def PTs (X : Cx) (ifs : List Expr) (t : TT) : Prop :=
  ∀ (pins : List (Addr × Obj)) (s : Shared) (σ : St) (H : Hp) (Q : Bool → Hp → Prop), Inv X pins σ H s → t σ H Q →
    wpAny (model X.prog X.w) X.A (forIn ifs true fun c r => if r = true then do let ok ← isTrue c X.env (eval c X.env); pure (ForInStep.yield ok) else pure (ForInStep.yield r)) (TP X pins σ Q) X.xe s
def tYes : TT := fun _ H Q => Q true H
theorem pts_nil {X : Cx} : PTs X [] tYes := fun _ _ _ H _ I h => wpAny_tests_nil ⟨H, I, h⟩
theorem pts_one {X : Cx} {c : Expr} {t : TT} (h : PT X c t) : PTs X [c] t := fun pins s σ H Q I hw => wpAny_tests_one (h pins s σ H Q I hw)

section
variable {prog : Program} {w : World} {A : Around} {E : Value → Shared → Prop} {R : Result → Shared → Prop} {s : Shared}
theorem comp_loop {elt target iter : Expr} {ifs : List Expr} {scope : Scope} {pos : Pos} {it acc : Value} {env : Env} (I : Nat → Shared → Prop)
    (turn : ∀ n s, I n s → wpAny (model prog w) A (pyNext it) (fun r s₁ => match r with
      | none => R (.ok .next) s₁
      | some v => wpAny (model prog w) A (letOwnedTupleGo target it v) (fun _ s₁' => wpAny (model prog w) A (assign target env v) (fun _ s₂ =>
          wpAny (model prog w) A (forIn ifs true fun c r => if r = true then do let ok ← isTrue c env (eval c env); pure (ForInStep.yield ok) else pure (ForInStep.yield r)) (fun ok s₃ =>
            if ok = true then wpAny (model prog w) A (eval elt env) (fun x s₄ =>
              wpAny (model prog w) A (call (.builtin "list.append") [acc, x]) (fun _ s₅ => ∃ m, m < n ∧ I m s₅) (notedBy (model prog w) A env fun e s' => R (.error e) s') s₄) (notedBy (model prog w) A env fun e s' => R (.error e) s') s₃
            else ∃ m, m < n ∧ I m s₃) (notedBy (model prog w) A env fun e s' => R (.error e) s') s₂) (notedBy (model prog w) A env fun e s' => R (.error e) s') s₁') (notedBy (model prog w) A env fun e s' => R (.error e) s') s₁) (notedBy (model prog w) A env fun e s' => R (.error e) s') s)
    (n : Nat) (h : I n s) :
    codeAny (model prog w) A (.compLoop (.ListComp elt [⟨target, iter, ifs, 0⟩] scope pos) 0 it acc env) R s := by
  refine codeAny_loop rfl I (fun n s hI => ?_) n h
  show wpAny _ A ((compTurn (.ListComp elt [⟨target, iter, ifs, 0⟩] scope pos) 0 it acc env).onRaise (fun x => do noteFrame x env; theTreesLotGoes x)) _ _ s
  refine wpAny_noted ?_
  rw [compTurn_list]
  refine wpAny_bind (wpAny_standAt (wpAny_bind (wpAny_mono (turn n s hI) (fun r s₁ h₁ => ?_) fun _ _ h' => h')))
  cases r with
  | none => exact wpAny_pure h₁
  | some v =>
    refine wpAny_bind (wpAny_mono h₁ (fun _ s₁' h₁' => ?_) fun _ _ h' => h')
    refine wpAny_bind (wpAny_mono h₁' (fun _ s₂ h₂ => wpAny_bind (wpAny_mono h₂ (fun ok s₃ h₃ => ?_) fun _ _ h' => h')) fun _ _ h' => h')
    cases ok with
    | false => exact wpAny_pure ⟨rfl, h₃⟩
    | true =>
      exact wpAny_bind (wpAny_bind (wpAny_mono h₃ (fun x s₄ h₄ => wpAny_bind (wpAny_mono h₄ (fun _ s₅ h₅ => wpAny_pure (wpAny_pure ⟨rfl, h₅⟩)) fun _ _ h' => h')) fun _ _ h' => h'))
end

/-- what the block wants, turn by turn: W by the turn, a measure, the items so far, the heap -/
def CompW (J : It) (l : Addr) (σf : St) (tt : TT) (te : TE) (H : Hp) (Q : Hp → Prop) : Prop :=
  ∃ W : Nat → Nat → List V → Hp → Prop, (∃ m, W 0 m [] (upd H l (.lst []))) ∧ ∀ i m ys H2, W i m ys H2 → H2 l = some (.lst ys) ∧
    ((J.stop i H2 ∧ Q H2) ∨ (J.go i H2 ∧ ys.length < sizeLine ∧ ∀ x H3, J.yld i H2 x H3 → tt (some x :: σf) H3 fun b H4 =>
      if b = true then te (some x :: σf) H4 fun y H5 => H5 l = some (.lst ys) ∧ ∃ m', m' < m ∧ W (i + 1) m' (ys ++ [y]) (upd H5 l (.lst (ys ++ [y])))
      else ∃ m', m' < m ∧ W (i + 1) m' ys H4))
/-- the values of the free names -/
def pick (σ : St) (ix : List Nat) : St := ix.map fun i => (σ[i]?).join
def tComp (wi : TI) (ix : List Nat) (tt : TT) (te : TE) : TE := fun σ H Q => wi σ H fun J H1 => ∀ l, H1 l = none → CompW J l (pick σ ix) tt te H1 (fun H2 => Q (.ref l) H2)
def tCompS (wi : TI) (ix : List Nat) (tt : TT) (te : TE) (i : Nat) : TS := fun D σ H => wi σ H fun J H1 => ∀ l, H1 l = none → CompW J l (pick σ ix) tt te H1 (fun H2 => D.nx (σ.set i (some (.ref l))) H2)

/-- what the text must show of a block: x its variable, ys its free names, their slots ix -/
structure BlockOk (X : Cx) (scope : Scope) (x : Str) (ys : List Str) (ix : List Nat) : Prop where
  kind : scope.kind = .function
  nocell : ∀ y ∈ scope.names, y.2 ≠ .cell
  names : ∀ y ∈ scope.names, y.2 = .local → scope.names.lookup y.1 = some .local
  var : scope.names.lookup x = some .local
  free : FreeIn scope X.env
  nd : (x :: ys).Nodup
  len : ix.length = ys.length
  slots : ∀ (j : Nat) (y : Str), ys[j]? = some y → ∃ i : Nat, ix[j]? = some i ∧ X.N[i]? = some y ∧ (X.env.scope.names.lookup y = some .cell ∨ X.env.scope.names.lookup y = some .free) ∧ scope.names.lookup y = some .free

theorem relabel_lookup {scope : Scope} {env : Env} {x : Str} (h : scope.names.lookup x = some .free) : (relabel scope env).names.lookup x = some .cell ∨ (relabel scope env).names.lookup x = some .free := by
  unfold relabel
  dsimp only
  have key : ∀ (names : List (Str × NameKind)), names.lookup x = some .free →
      ((names.map fun (n, k) => if (k == NameKind.free && env.scope.kind == .function && env.kindOf n == some .cell) then (n, NameKind.cell) else (n, k)).lookup x = some .cell ∨
       (names.map fun (n, k) => if (k == NameKind.free && env.scope.kind == .function && env.kindOf n == some .cell) then (n, NameKind.cell) else (n, k)).lookup x = some .free) := by
    intro names
    induction names with
    | nil => intro h; simp at h
    | cons y r ih =>
      obtain ⟨n, k⟩ := y
      intro h
      rw [List.map_cons]
      dsimp only
      by_cases hx : x = n
      · subst hx
        have hk : k = .free := by
          rw [List.lookup_cons] at h
          simp only [beq_self_eq_true] at h
          exact Option.some.inj h
        subst hk
        split
        · left; simp [List.lookup_cons]
        · right; simp [List.lookup_cons]
      · have hb : (x == n) = false := beq_eq_false_iff_ne.mpr hx
        rw [List.lookup_cons, hb] at h
        have q := ih h
        split
        · simpa only [List.lookup_cons, hb] using q
        · simpa only [List.lookup_cons, hb] using q
  exact key scope.names h

section
variable {X : Cx} {pins : List (Addr × Obj)} {σ : St} {H : Hp} {s₂ : Shared} {scope : Scope} {x : Str} {ys : List Str} {ix : List Nat} {cl : List (Str × Addr)} {fp : List Addr} {L : Addr}
theorem comp_ok (B : BlockOk X scope x ys ix) (I : Inv X pins σ H s₂) (hf : ∀ b ∈ fp, FpOk X pins H b) (hfl : ∀ b ∈ fp, b < s₂.heap.objs.size) (hL : s₂.heap.objs.size ≤ L)
    (hcl : ∀ y c, cl.lookup y = some c → X.env.cells.lookup y = some c) (hcf : ∀ y ∈ scope.names, y.2 = .free → ∃ c, cl.lookup y.1 = some c) : (compCx X scope (x :: ys) cl L s₂ H fp (X.pn ++ pins)).Ok where
  mod := I.ok.mod
  kind := B.kind
  glob := I.ok.glob
  blt := I.ok.blt
  above := hL
  inj := fun a b c h1 h2 => I.ok.inj a b c (hcl a c h1) (hcl b c h2)
  has := fun a ha => by
    obtain ⟨k, hm, hk⟩ := relabel_free (env := X.env) B.nocell (x := a) ha
    exact hcf (a, k) hm hk
  cab := fun _ _ h => nomatch h
  hd := I.ok.hd
  frames := I.ok.frames
  stk := .inl rfl
  exf := fun b hb => ⟨Nat.ne_of_lt (Nat.lt_of_lt_of_le (hfl b hb) hL), fun y c h => (hf b hb).2.2.2.2.1 y c (hcl y c h)⟩
  bs := I.bs
  bsz := Nat.le_trans I.ok.bsz I.sz
  noex := fun b o e hb => by
    rcases (hf b hb).2.2.2.1 with z | z
    · exact I.ok.noex b o e z
    · exact absurd (Nat.lt_of_lt_of_le (Nat.lt_of_lt_of_le (Heap.lt_size e) I.ok.bsz) z) (Nat.lt_irrefl _)
  exfs := fun b hb hm => by
    rcases List.mem_cons.mp (I.stkSub b hm) with z | z
    · exact (hf b hb).2.1 z
    · exact (hf b hb).2.2.1 z
  funs := I.stack
  frf := I.stkFree

theorem comp_inv {h₁ : Heap} {tk : Nat} {m₁ : Str → Option Value} {l : Addr} {n₀ : Nat} (B : BlockOk X scope x ys ix) (I : Inv X pins σ H s₂) (hf : ∀ b ∈ fp, FpOk X pins H b) (hfl : ∀ b ∈ fp, b < s₂.heap.objs.size) (hL : s₂.heap.objs.size ≤ L)
    (hcl : ∀ y c, cl.lookup y = some c → X.env.cells.lookup y = some c) (hcf : ∀ y ∈ scope.names, y.2 = .free → ∃ c, cl.lookup y.1 = some c)
    (kp : ∀ b o, s₂.heap.get? b = some o → h₁.get? b = some o) (hns : h₁.Ns L m₁) (hl : l = s₂.heap.objs.size) (hlL : l ≠ L) (ho : h₁.get? l = some { cls := .type "list", data := .seq ([] : List Value).toArray n₀ }) :
    Inv (compCx X scope (x :: ys) cl L s₂ H fp (X.pn ++ pins)) [] (none :: pick σ ix) (upd H l (.lst [])) { s₂ with heap := h₁, toks := tk } := by
  subst hl
  have fr := I.hok.fresh (Nat.le_refl s₂.heap.objs.size)
  refine ⟨comp_ok B I hf hfl hL hcl hcf, rfl, I.bare, Un.laid kp (Nat.le_refl _) fr, ⟨m₁, hns, fun i y v e1 e2 e3 => ?_⟩, fun y c e => ?_, ?_, fun y c e => ?_, fun p hp => ?_, I.hok.laid kp (Nat.le_refl _) ⟨Nat.zero_le _, [], n₀, .nil, ho⟩, ?_⟩
  · cases i with
    | zero => simp at e2
    | succ j =>
      have e1' : ys[j]? = some y := by simpa [compCx] using e1
      obtain ⟨i, hi, hN, hk, hfree⟩ := B.slots j y e1'
      have e2' : (σ[i]?).join = some v := by
        have : (pick σ ix)[j]? = some (some v) := by simpa using e2
        unfold pick at this
        rw [List.getElem?_map, hi] at this
        exact Option.some.inj this
      have e2'' : σ[i]? = some (some v) := by
        cases q : σ[i]? with
        | none => rw [q] at e2'; cases e2'
        | some z => rw [q] at e2'; rw [show z = some v from e2']
      obtain ⟨m, hn, hlk⟩ := I.loc
      have vis : Vis X.env.scope y := .inr (hk.imp id id)
      obtain ⟨u, r, l⟩ := hlk i y v hN e2'' vis
      refine ⟨u, r, .inr ⟨relabel_lookup hfree, ?_⟩⟩
      rcases l with ⟨k, _⟩ | ⟨_, c, hc, hcell⟩
      · have k' : X.env.scope.names.lookup y = some .local := k
        rcases hk with z | z
        · rw [z] at k'; cases k'
        · rw [z] at k'; cases k'
      · obtain ⟨c', hc'⟩ := hcf (y, .free) (PySem.mem_of_lookup hfree) rfl
        have := hcl y c' hc'
        rw [hc] at this
        cases this
        obtain ⟨o, q, d⟩ := hcell
        exact ⟨c, hc', o, kp c o q, d⟩
  · obtain ⟨v, o, q, d⟩ := I.cell y c (hcl y c e)
    exact ⟨v, o, kp c o q, d⟩
  · show upd H s₂.heap.objs.size (.lst []) L = none
    rw [upd_ne (Ne.symm hlL)]
    exact I.hok.fresh hL
  · obtain ⟨v, o, q, d⟩ := I.cell y c (hcl y c e)
    rw [upd_ne (Nat.ne_of_lt (Heap.lt_size q))]
    exact I.freeC y c (hcl y c e)
  · rw [List.append_nil] at hp
    obtain ⟨q, n, ne, nf, d⟩ := I.pin p hp
    have lt := Heap.lt_size q
    refine ⟨kp _ _ q, by rw [upd_ne (Nat.ne_of_lt lt)]; exact n, Nat.ne_of_lt (Nat.lt_of_lt_of_le lt hL), fun hm => ?_, d⟩
    rcases List.mem_cons.mp (I.stkSub p.1 hm) with z | z
    · exact ne z
    · exact nf z
  · show _ = (x :: ys).length
    unfold pick
    rw [List.length_cons, List.length_map, B.len, List.length_cons]

theorem comp_core {px pos : Pos} {iter elt : Expr} {ifs : List Expr} {it : Addr} {tn : Nat → Heap → Prop} {J : It} {tt : TT} {te : TE} {Qd : Addr → Hp → Prop} {RR : Value → Addr → Result → Shared → Prop} {E : Value → Shared → Prop}
    (hc : X.calm = true) (B : BlockOk X scope x ys ix) (I : Inv X pins σ H s₂) (T : Turn X.prog X.w X.K (.Name x px) J fp it tn) (st0 : tn 0 s₂.heap) (hf : ∀ b ∈ fp, FpOk X pins H b)
    (hcl : ∀ y c, cl.lookup y = some c → X.env.cells.lookup y = some c) (hcf : ∀ y ∈ scope.names, y.2 = .free → ∃ c, cl.lookup y.1 = some c)
    (ht : ∀ L s H ex pn, PTs (compCx X scope (x :: ys) cl L s H ex pn) ifs tt) (he : ∀ L s H ex pn, PE (compCx X scope (x :: ys) cl L s H ex pn) elt te)
    (hw : ∀ l, H l = none → CompW J l (pick σ ix) tt te H (Qd l))
    (hRR : ∀ D L H' s' m, Inv X pins σ H' s' → s'.heap.Ns L m → H' L = none → L ≠ X.env.locals → X.s₀.heap.objs.size ≤ L → (∀ y c, X.env.cells.lookup y = some c → c ≠ L) → (∀ p ∈ X.pn ++ pins, p.1 ≠ L) → Qd D H' → RR (.ref D) L (.ok .next) s') :
    wpAny (model X.prog X.w) X.A (newList []) (fun acc s₃ => wpAny (model X.prog X.w) X.A (newFunctionEnv scope X.env.globals cl [] X.env.qual none .none (some X.env)) (fun cenv s₄ =>
      codeAny (model X.prog X.w) X.A (.compStart (.ListComp elt [⟨.Name x px, iter, ifs, 0⟩] scope pos) 0 (.ref it) acc { cenv with scope := relabel scope X.env }) (RR acc cenv.locals) s₄) E s₃) E s₂ := by
  refine wpAny_newObj_type (wpAny_newFunctionEnv B.nocell (by intro y hy; simp at hy) (fun h₁ hns₁ hsb₁ => ?_) B.kind)
  dsimp only at hns₁ hsb₁ ⊢
  generalize hH2 : s₂.heap.push { cls := .type "list", dict := none, data := .seq ([] : List Value).toArray } = H2 at hns₁ hsb₁ ⊢
  have hC : H2.objs.size = s₂.heap.objs.size + 1 := by rw [← hH2, Heap.size_push]
  have hDC : s₂.heap.objs.size ≠ H2.objs.size := by rw [hC]; exact Nat.ne_of_lt (Nat.lt_succ_self _)
  have hCle : s₂.heap.objs.size ≤ H2.objs.size := by rw [hC]; exact Nat.le_succ _
  have old : ∀ b o, s₂.heap.get? b = some o → h₁.get? b = some o := fun b o e => hsb₁.extBut b o (Nat.ne_of_lt (Nat.lt_of_lt_of_le (Heap.lt_size e) hCle)) (Heap.get?_push_of_some _ (hH2 ▸ Heap.get?_push_of_some _ e))
  have hacc : h₁.get? s₂.heap.objs.size = some { cls := .type "list", data := .seq ([] : List Value).toArray } := hsb₁.extBut _ _ hDC (Heap.get?_push_of_some _ (hH2 ▸ Heap.get?_push_size _ rfl))
  have hfl : ∀ b ∈ fp, b < s₂.heap.objs.size := fun b hb => let ⟨o, e, _⟩ := T.obj 0 _ st0 b hb; Heap.lt_size e
  have kpf : ∀ b ∈ fp, ∀ o, s₂.heap.get? b = some o → h₁.get? b = some o := fun b _ o e => old b o e
  have st1 : tn 0 h₁ := T.keep 0 _ _ st0 kpf
  obtain ⟨W, ⟨m0, w0⟩, turn⟩ := hw s₂.heap.objs.size (I.hok.fresh (Nat.le_refl _))
  have loop : ∀ s₃ : Shared, s₃ = { s₂ with heap := h₁, toks := s₂.toks + ([] : List (Str × Value)).length } →
      codeAny (model X.prog X.w) X.A (.compLoop (.ListComp elt [⟨.Name x px, iter, ifs, 0⟩] scope pos) 0 (.ref it) (.ref s₂.heap.objs.size) (compEnvC scope cl H2.objs.size X.env))
        (RR (.ref s₂.heap.objs.size) H2.objs.size) s₃ := by
    rintro s₃ rfl
    have I0 := comp_inv (tk := s₂.toks + ([] : List (Str × Value)).length) (n₀ := 0) (m₁ := _) (L := H2.objs.size) B I hf hfl hCle hcl hcf old hns₁ rfl hDC hacc
    have hx : (relabel scope X.env).names.lookup x = some .local := lookup_relabel_local B.var
    refine comp_loop (env := compEnvC scope cl H2.objs.size X.env)
      (fun n s' => ∃ i ys' v0 H', Inv (compCx X scope (x :: ys) cl H2.objs.size s₂ H fp (X.pn ++ pins)) [] (v0 :: pick σ ix) H' s' ∧ tn i s'.heap ∧ (∀ b ∈ fp, H' b = none) ∧ W i n ys' H') ?_ m0
      ⟨0, [], none, _, I0, st1, fun b hb => by rw [upd_ne (Nat.ne_of_lt (hfl b hb))]; exact (hf b hb).1, w0⟩
    rintro n s3 ⟨i, ys', v0, H3, I3, st3, fr3, w3⟩
    obtain ⟨hl3, alt⟩ := turn i n ys' H3 w3
    have stat : ∀ {H' : Hp}, (∀ b ∈ fp, H' b = none) → ∀ b ∈ fp, FpOk (compCx X scope (x :: ys) cl H2.objs.size s₂ H fp (X.pn ++ pins)) [] H' b := fun hn b hb =>
      ⟨hn b hb, Nat.ne_of_lt (Nat.lt_of_lt_of_le (hfl b hb) hCle), fun hm => by
        rcases List.mem_cons.mp (I.stkSub b hm) with z | z
        · exact (hf b hb).2.1 z
        · exact (hf b hb).2.2.1 z, .inl hb, fun y c e => (hf b hb).2.2.2.2.1 y c (hcl y c e), fun p hp => (hf b hb).2.2.2.2.2 p (by simpa [compCx] using hp)⟩
    rcases alt with ⟨stop, qd⟩ | ⟨go, hsz, step⟩
    · refine thn (T.done (compCx X scope (x :: ys) cl H2.objs.size s₂ H fp (X.pn ++ pins)) rfl rfl rfl hc i [] s3 _ H3 _ I3 (stat fr3) st3 stop) fun r s4 ⟨hr, I4⟩ => ?_
      subst hr
      obtain ⟨m, hn, _⟩ := I4.loc
      refine hRR s₂.heap.objs.size H2.objs.size H3 s4 m ?_ hn I4.free (Nat.ne_of_gt (Nat.lt_of_lt_of_le I.lt hCle)) (Nat.le_trans I.sz hCle) (fun y c e => ?_) (fun p hp => ?_) qd
      · exact I.call' I4.os I4.base I4.hok I4.bare fun b hb => ⟨(hf b hb).2.2.2.1, (hf b hb).2.1, (hf b hb).2.2.2.2.1, (hf b hb).2.2.2.2.2⟩
      · obtain ⟨v, o, q, d⟩ := I.cell y c e
        exact Nat.ne_of_lt (Nat.lt_of_lt_of_le (Heap.lt_size q) hCle)
      · exact Nat.ne_of_lt (Nat.lt_of_lt_of_le (Heap.lt_size (I.pin p hp).1) hCle)
    · refine thn (T.item (compCx X scope (x :: ys) cl H2.objs.size s₂ H fp (X.pn ++ pins)) rfl rfl rfl hc i [] s3 _ H3 _ I3 (stat fr3) st3 go) fun r s4 ⟨u, hr, h4⟩ => ?_
      subst hr
      refine thn h4 fun _ s5 ⟨xv, H5, I5, r5, y5, st5, fr5⟩ => ?_
      have I5' := I5.pinned (stat fr5) (T.obj _ _ st5)
      have hg : PG (compCx X scope (x :: ys) cl H2.objs.size s₂ H fp (X.pn ++ pins)) (.Name x px) (gName 0) := pg_name B.nd rfl (.inl hx) (.inr hx)
      refine wpAny_mono (hg _ s5 _ H5 xv u (fun σ' H' => σ' = some xv :: pick σ ix ∧ H' = H5) I5' r5 ⟨rfl, rfl⟩) (fun _ s6 ⟨σ6, H6, I6, e6, e6'⟩ => ?_) fun _ _ z => False.elim z
      subst e6 e6'
      refine wpAny_mono (ht _ _ _ _ _ _ s6 _ _ _ I6 (step xv _ y5)) (fun b s7 ⟨H7, I7, q7⟩ => ?_) fun _ _ z => False.elim z
      have again : ∀ {σ8 : St} {H8 : Hp} {s8 : Shared}, Inv (compCx X scope (x :: ys) cl H2.objs.size s₂ H fp (X.pn ++ pins)) ([] ++ pinsAt fp s5.heap) σ8 H8 s8 →
          Inv (compCx X scope (x :: ys) cl H2.objs.size s₂ H fp (X.pn ++ pins)) [] σ8 H8 s8 ∧ tn (i + 1) s8.heap ∧ ∀ b ∈ fp, H8 b = none := fun {σ8 H8 s8} I8 => by
        refine ⟨I8.unpinned, T.keep _ _ _ st5 fun b hb o e => (I8.pin (b, o) (List.mem_append_right _ (List.mem_append_right _ (mem_pinsAt hb e)))).1, fun b hb => ?_⟩
        obtain ⟨o, e, d⟩ := T.obj _ _ st5 b hb
        exact (I8.pin (b, o) (List.mem_append_right _ (List.mem_append_right _ (mem_pinsAt hb e)))).2.1
      cases b with
      | false =>
        rw [if_neg Bool.false_ne_true] at q7 ⊢
        obtain ⟨m', hm, w7⟩ := q7
        obtain ⟨a1, a2, a3⟩ := again I7
        exact ⟨m', hm, i + 1, ys', some xv, H7, a1, a2, a3, w7⟩
      | true =>
        rw [if_pos rfl] at q7 ⊢
        refine wpAny_mono (he _ _ _ _ _ _ s7 _ _ _ I7 q7) (fun uy s8 ⟨y, H8, I8, r8, hl8, m', hm, w8⟩ => ?_) fun _ _ z => False.elim z
        refine wpAny_mono (mt_append (X := compCx X scope (x :: ys) cl H2.objs.size s₂ H fp (X.pn ++ pins)) _ s8 _ H8 (.ref s₂.heap.objs.size) [y] (.ref s₂.heap.objs.size) [uy] (fun _ H9 => H9 = upd H8 s₂.heap.objs.size (.lst (ys' ++ [y]))) I8 rfl (.cons r8 .nil) ⟨_, ys', y, rfl, rfl, hl8, hsz, rfl⟩)
          (fun _ s9 ⟨v9, H9, I9, _, e9⟩ => ?_) fun _ _ z => False.elim z
        subst e9
        obtain ⟨a1, a2, a3⟩ := again I9
        exact ⟨m', hm, i + 1, ys' ++ [y], some xv, _, a1, a2, a3, w8⟩
  exact codeAny_compStart_list (loop _ rfl) (T.self X.A 0 _ _ _ st1 (loop _ rfl))

theorem pe_comp {px pos : Pos} {iter elt : Expr} {ifs : List Expr} {wi : TI} {tt : TT} {te : TE} (hc : X.calm = true) (B : BlockOk X scope x ys ix) (hi : PI X (.Name x px) iter wi)
    (ht : ∀ cl L s H ex pn, PTs (compCx X scope (x :: ys) cl L s H ex pn) ifs tt) (he : ∀ cl L s H ex pn, PE (compCx X scope (x :: ys) cl L s H ex pn) elt te)
    (hs : ∀ v, foldedSetIterable iter X.env v = pure v := by intro _; rfl) : PE X (.ListComp elt [⟨.Name x px, iter, ifs, 0⟩] scope pos) (tComp wi ix tt te) := by
  intro pins s σ H Q I h
  obtain ⟨cl, hclos, hcl, hcf⟩ := closureFor_ok (scope := scope) (env := X.env) (fun y hy hyf => I.ok.has y.1 (B.free y hy hyf))
  rw [eval_ListComp]
  refine wpAny_comprehension_free (use := none) rfl hs hclos B.kind B.names (thn (hi pins s σ H _ I h) fun xv s1 h1 => thn h1 fun itv s2 h2 => ?_)
  obtain ⟨it, fp, tn, J, H2, e, I2, T, st2, f2, hw⟩ := h2
  subst e
  refine comp_core (RR := fun acc C => compPost (model X.prog X.w) X.A X.xe none (EP X pins σ Q) acc C) (Qd := fun l H' => Q (.ref l) H') hc B I2 T st2 f2 hcl hcf (ht cl) (he cl) hw ?_
  intro D L H' s' m I' hn hfree h1 h2 h3 h4 q
  exact ⟨m, hn, fun h' hs' => ⟨.ref D, H', I'.turned (it := L) (t' := s'.toks) (fun b o hb e => (hs'.2 b hb).trans e) hfree h1 (.inr h2) h3 h4, rfl, q⟩⟩
end
end L2

set_option Elab.async false
set_option linter.all false
set_option maxRecDepth 100000
namespace L2
open PySem PySem.Spec PyProof.Rows

section
variable {X : Cx} {scope : Scope} {x : Str} {ys : List Str} {ix : List Nat}
/-- name = [.. for x in ..], the name a plain local one -/
theorem ps_setComp {i : Nat} {y : Str} {px py pos spos : Pos} {iter elt : Expr} {ifs : List Expr} {wi : TI} {tt : TT} {te : TE} (hc : X.calm = true) (B : BlockOk X scope x ys ix) (hN : X.N.Nodup) (hy : X.N[i]? = some y) (hyl : X.env.scope.names.lookup y = some .local) (hi : PI X (.Name x px) iter wi)
    (ht : ∀ cl L s H ex pn, PTs (compCx X scope (x :: ys) cl L s H ex pn) ifs tt) (he : ∀ cl L s H ex pn, PE (compCx X scope (x :: ys) cl L s H ex pn) elt te)
    (hsw : swapsWith (.ListComp elt [⟨.Name x px, iter, ifs, 0⟩] scope pos) (some (.Name y py)) spos.line X.env = pure true := by rfl)
    (hs : ∀ v, foldedSetIterable iter X.env v = pure v := by intro _; rfl) : PS X (.Assign [.Name y py] (.ListComp elt [⟨.Name x px, iter, ifs, 0⟩] scope pos) spos) (tCompS wi ix tt te i) := by
  intro pins s σ H D I h
  obtain ⟨cl, hclos, hcl, hcf⟩ := closureFor_ok (scope := scope) (env := X.env) (fun y hy hyf => I.ok.has y.1 (B.free y hy hyf))
  rw [exec_Assign_Name_used _ _ _ _ hsw]
  refine wpAny_bind (wpAny_standAt (wpAny_bind ?_))
  show wpAny _ X.A (do let _ ← comprehension (.ListComp elt [⟨.Name x px, iter, ifs, 0⟩] scope pos) scope X.env _ (newList []) false (eval iter X.env) (some (assign (.Name y py) X.env))) _ _ s
  refine wpAny_bind (wpAny_mono (wpAny_comprehension_free (use := some (assign (.Name y py) X.env)) (Q := fun _ s' => SP X pins D .next s') rfl hs hclos B.kind B.names
    (thn (hi pins s σ H _ I h) fun xv s1 h1 => thn h1 fun itv s2 h2 => ?_)) (fun _ s' hq => wpAny_pure (wpAny_pure hq)) fun _ _ e => e)
  obtain ⟨it, fp, tn, J, H2, e, I2, T, st2, f2, hw⟩ := h2
  subst e
  refine comp_core (RR := fun acc C => compPost (model X.prog X.w) X.A X.xe (some (assign (.Name y py) X.env)) (fun _ s' => SP X pins D .next s') acc C) (Qd := fun l H' => D.nx (σ.set i (some (.ref l))) H') hc B I2 T st2 f2 hcl hcf (ht cl) (he cl) hw ?_
  intro D' L H' s' m I' hn hfree h1 h2 h3 h4 q
  show wpAny _ X.A (assign (.Name y py) X.env (.ref D')) _ _ _
  refine wpAny_assign_Name (store_ok2 I' hN hy (.inl hyl) (v := .ref D') rfl (fun s'' I'' sb => ?_) (.inr hyl))
  obtain ⟨a, hsb, ha⟩ := sb
  have hL : L ≠ a := by
    rcases ha with z | z
    · rw [z]; exact h1
    · exact (h3 y a z).symm
  refine ⟨m, hn.sameBut hsb hL, fun h' hs' => ⟨_, H', I''.turned (it := L) (t' := s''.toks) (fun b o hb e => (hs'.2 b hb).trans e) hfree h1 (.inr h2) h3 h4, q⟩⟩
end

/-- a comprehension whose parts make no new things that matter: the values g x of the items that pass p -/
theorem comp_pure {J : It} {Ok : Hp → Prop} {xs : List V} {l : Addr} {σf : St} {tt : TT} {te : TE} {H : Hp} {Q : Hp → Prop} (p : V → Bool) (g : V → V) (hJ : ItIs J Ok xs) (hl : H l = none) (hz : xs.length ≤ sizeLine) (hOk : ∀ H', Same H H' → Ok H')
    (ht : ∀ x H3 Q', x ∈ xs → Same H H3 → (∀ H', Same H3 H' → Q' (p x) H') → tt (some x :: σf) H3 Q')
    (he : ∀ x H3 Q', x ∈ xs → p x = true → Same H H3 → (∀ H', Same H3 H' → Q' (g x) H') → te (some x :: σf) H3 Q')
    (hd : ∀ H', Same H H' → H' l = some (.lst ((xs.filter p).map g)) → Q H') : CompW J l σf tt te H Q := by
  refine ⟨fun i m ys H2 => m = xs.length - i ∧ i ≤ xs.length ∧ Same H H2 ∧ H2 l = some (.lst ys) ∧ ys = ((xs.take i).filter p).map g, ⟨xs.length, by simp, Nat.zero_le _, Same.upd hl, upd_same, by simp⟩, ?_⟩
  rintro i m ys H2 ⟨rfl, hi, s2, h2, e2⟩
  refine ⟨h2, ?_⟩
  by_cases hlt : i < xs.length
  · refine .inr ⟨hJ.go i H2 (hOk _ s2) hlt, ?_, fun x H3 y => ?_⟩
    · rw [e2, List.length_map]
      refine Nat.lt_of_le_of_lt (List.length_filter_le _ _) ?_
      rw [List.length_take]
      omega
    · obtain ⟨e, hx⟩ := hJ.yld i H2 x H3 (hOk _ s2) hlt y
      subst e
      have mem : x ∈ xs := List.mem_of_getElem? hx
      have tk : xs.take (i + 1) = xs.take i ++ [x] := by rw [List.take_add_one, hx]; rfl
      refine ht x _ _ mem s2 fun H4 s4 => ?_
      cases hp : p x with
      | false =>
        rw [if_neg Bool.false_ne_true]
        refine ⟨xs.length - (i + 1), by omega, rfl, hlt, s2.trans s4, s4 _ _ h2, ?_⟩
        rw [tk, List.filter_append, e2]
        simp [hp]
      | true =>
        rw [if_pos rfl]
        refine he x _ _ mem hp (s2.trans s4) fun H5 s5 => ?_
        refine ⟨s5 _ _ (s4 _ _ h2), xs.length - (i + 1), by omega, rfl, hlt, ?_, upd_same, ?_⟩
        · intro b o e
          rw [upd_ne (ne_of_none e hl)]
          exact s5 _ _ (s4 _ _ (s2 _ _ e))
        · rw [tk, List.filter_append, e2]
          simp [hp]
  · have e : i = xs.length := by omega
    subst e
    refine .inl ⟨hJ.stop H2 (hOk _ s2), hd H2 s2 ?_⟩
    rw [h2, e2, List.take_length]

/-! ### any, all -/
theorem boolsAre_of {bs : List Bool} : ∀ {us : List Value}, Vals (bs.map V.bl) us → LSm.BoolsAre us bs := by
  induction bs with
  | nil => intro us r; rw [List.map_nil] at r; cases r; exact .nil
  | cons n ns ih =>
    intro us r
    rw [List.map_cons] at r
    cases r with
    | cons r1 r2 =>
      cases r1
      exact .cons n (ih r2)
theorem strsAre_of {ns : List Str} : ∀ {us : List Value}, Vals (ns.map V.str) us → StrsAre us ns := by
  induction ns with
  | nil => intro us r; rw [List.map_nil] at r; cases r; exact .nil
  | cons n ns ih =>
    intro us r
    rw [List.map_cons] at r
    cases r with
    | cons r1 r2 =>
      obtain ⟨t, e⟩ := r1
      subst e
      exact .cons n t (ih r2)
theorem vals_strs : ∀ {vs : List Value} {ns : List Str}, StrsAre vs ns → Vals (ns.map V.str) vs
  | _, _, .nil => .nil
  | _, _, .cons n t h => .cons ⟨t, rfl⟩ (vals_strs h)
section
variable {X : Cx}
theorem call_any (hc : X.calm = true) : CallR X (.builtin "any") (fun xs H Q => ∃ p bs, xs = [.ref p] ∧ SqL X.K H p (List.map V.bl bs) ∧ Q (.bl (bs.any id)) H) := by
  intro pins s σ H xs us Q I r h
  obtain ⟨p, bs, rfl, hq, q⟩ := h
  obtain ⟨u, rfl, rx⟩ := vals1 r
  cases rx
  obtain ⟨its, rv, pl, hz⟩ := I.list hq
  have hb := boolsAre_of rv
  have hl := pl.isList
  have hh := I.ok.hd hc
  have hlt : p < s.heap.objs.size := by obtain ⟨_, e, _⟩ := hl; exact Heap.lt_size e
  refine call_any_walk (wpAny_pyIter_list hl ?_)
  refine ⟨s.heap.objs.size, [s.heap.objs.size, p], [s.heap.objs.size], its.toArray.size, _, _, fun i => (bs[i]?).getD false, rfl, Walks.list (A := X.A.in1) hh _ p (Nat.ne_of_lt hlt) its.toArray,
    ⟨⟨_, Heap.get?_push_size _ rfl, rfl, rfl⟩, hl.push _⟩, fun i v s' Q' E' hP hQ => ?_, fun h' tk hk => ?_⟩
  · obtain ⟨b, e, rfl⟩ := hb.get i v (by simpa using hP)
    simp only [e, Option.getD_some] at hQ
    exact wpAny_truthy_bool hQ
  · have e : ((List.range its.toArray.size).any fun i => (bs[i]?).getD false) = bs.any id := by
      rw [List.size_toArray, hb.length]; exact LSm.range_any bs
    rw [e]
    exact ⟨.bl _, H, I.kept (LSm.kept_iter hk), rfl, q⟩
theorem call_all (hc : X.calm = true) : CallR X (.builtin "all") (fun xs H Q => ∃ p bs, xs = [.ref p] ∧ SqL X.K H p (List.map V.bl bs) ∧ Q (.bl (bs.all id)) H) := by
  intro pins s σ H xs us Q I r h
  obtain ⟨p, bs, rfl, hq, q⟩ := h
  obtain ⟨u, rfl, rx⟩ := vals1 r
  cases rx
  obtain ⟨its, rv, pl, hz⟩ := I.list hq
  have hb := boolsAre_of rv
  have hl := pl.isList
  have hh := I.ok.hd hc
  have hlt : p < s.heap.objs.size := by obtain ⟨_, e, _⟩ := hl; exact Heap.lt_size e
  refine call_all_walk (wpAny_pyIter_list hl ?_)
  refine ⟨s.heap.objs.size, [s.heap.objs.size, p], [s.heap.objs.size], its.toArray.size, _, _, fun i => (bs[i]?).getD true, rfl, Walks.list (A := X.A.in1) hh _ p (Nat.ne_of_lt hlt) its.toArray,
    ⟨⟨_, Heap.get?_push_size _ rfl, rfl, rfl⟩, hl.push _⟩, fun i v s' Q' E' hP hQ => ?_, fun h' tk hk => ?_⟩
  · obtain ⟨b, e, rfl⟩ := hb.get i v (by simpa using hP)
    simp only [e, Option.getD_some] at hQ
    exact wpAny_truthy_bool hQ
  · have e : ((List.range its.toArray.size).all fun i => (bs[i]?).getD true) = bs.all id := by
      rw [List.size_toArray, hb.length]; exact LSm.range_all bs
    rw [e]
    exact ⟨.bl _, H, I.kept (LSm.kept_iter hk), rfl, q⟩

/-! ### sorted, list of a dict; its values -/
theorem keys_are {P : Program} {w : World} {ks : List Str} {kvs : List (Key × V)} {vs : List (Key × Value)} {us : List Value} (hk : kvs.map (·.1) = ks.map (Sum.inr : Str → Key)) (rel : KV kvs vs) (hl : us.length = vs.length)
    (hu : ∀ (j : Nat) (u : Value), us[j]? = some u → ∃ k x, vs[j]? = some (k, x) ∧ (mixKind P w).is k u = true) : StrsAre us ks := by
  have e : vs.map (·.1) = ks.map (Sum.inr : Str → Key) := rel.keys ▸ hk
  clear hk rel
  induction ks generalizing us vs with
  | nil =>
    have : vs = [] := by cases vs with | nil => rfl | cons a b => simp at e
    subst this
    have : us = [] := List.length_eq_zero_iff.mp hl
    subst this
    exact .nil
  | cons k ks ih =>
    cases vs with
    | nil => simp at e
    | cons v vs =>
      cases us with
      | nil => simp at hl
      | cons u us =>
        rw [List.map_cons, List.map_cons] at e
        injection e with e1 e2
        obtain ⟨k', x, h1, h2⟩ := hu 0 u rfl
        have h1' : v = (k', x) := by simpa using h1
        subst h1'
        have e1' : k' = (Sum.inr k : Key) := e1
        subst e1'
        obtain ⟨t, rfl⟩ := Value.isStrOf_shape (x := k) (v := u) h2
        exact .cons k t (ih (by simpa using hl) (fun j u' h => hu (j + 1) u' (by simpa using h)) e2)
theorem call_sortedD (hc : X.calm = true) : CallR X (.builtin "sorted") (fun xs H Q => ∃ d kvs ks, xs = [.ref d] ∧ H d = some (.dK kvs) ∧ kvs.map (·.1) = List.map (Sum.inr : Str → Key) ks ∧ ks.length < 64 ∧
    ∀ l ss, H l = none → ss.Perm ks → sortedS ss = true → Q (.ref l) (upd H l (.lst (ss.map V.str)))) := by
  intro pins s σ H xs us Q I r h
  obtain ⟨d, kvs, ks, rfl, hd, hk, h64, q⟩ := h
  obtain ⟨u, rfl, rx⟩ := vals1 r
  cases rx
  obtain ⟨hz, lo, vs, rel, dd⟩ := dk_of I.hok hd
  obtain ⟨ep, hat⟩ := dd.dictAt
  have hh := I.ok.hd hc
  have hlk : kvs.length = ks.length := by have := congrArg List.length hk; simpa using this
  have hn : vs.length ≤ sizeLine := by rw [← rel.length]; exact hz
  refine Calls.call_function_entry kind_sorted plain_sorted entry_sorted (args_sorted1 _) ?_
  unfold Builtin.«sorted»
  refine wpAny_bind (m := checkCount "sorted" 1 1 _) (wpAny_pure ?_)
  refine wpAny_bind (PySem.W.kdu_collect (A := X.A.in1) (PySem.W.kdl_dict (knd := mixKind X.prog X.w) (kvs := vs) (ep := ep) lo) hh hat hn fun h' tk acc hkp hacc => ?_)
  have hl : acc.toList.length = vs.length := by rw [Array.length_toList]; exact hacc.1
  refine wpAny_bind (wpAny_newList ?_ (by rw [hl]; exact hn))
  have hS : StrsAre acc.toList ks := keys_are (P := X.prog) (w := X.w) hk rel hl fun j u e => hacc.2 j u (by rw [← Array.getElem?_toList]; exact e)
  have hoL : (h'.push (seqObj "list" acc.toList.toArray 0)).get? h'.objs.size = some (seqObj "list" acc.toList.toArray 0) := Heap.get?_push_size _ rfl
  have h64' : acc.toList.length < 64 := by rw [hl, ← rel.length, hlk]; exact h64
  refine wpAny_bind (wpAny_holding (wpAny_call_entry slot_list_sort ⟨_, hoL, rfl⟩ entry_list_sort (list_sort_treeK strKind_oneLt hoL hS.keysOf (fun v₁ v₂ rest e => keyKind_strs (by rw [← e]; exact hS)) h64' fun st' a1 a2 => ⟨_, rfl, ?_⟩) (args_list_sort _)))
  obtain ⟨ss', b1, b2, b3⟩ := sorted_out_str hS a1 a2
  have I1 : Inv X pins σ H { s with heap := h', toks := tk } := I.kept hkp
  obtain ⟨e, he⟩ := sortedHeap_at (out := (arrOf st').map (·.2)) hoL
  refine wpAny_pure ⟨_, rfl, ⟨.ref h'.objs.size, upd H h'.objs.size (.lst (ss'.map V.str)), I1.laid (t' := tk) (fun b o q => ?_) (Nat.le_refl _) ⟨?_, _, e, vals_strs b1, ?_⟩, rfl, q _ ss' (I1.hok.fresh (Nat.le_refl _)) b2 b3⟩⟩
  · have lt : b < h'.objs.size := Heap.lt_size q
    rw [sortedHeap_old (Nat.ne_of_lt lt) (by rw [size_push']; exact Nat.lt_succ_of_lt lt)]
    exact Heap.get?_push_of_some _ q
  · rw [List.length_map, b2.length_eq, ← hlk]
    exact hz
  · rw [Array.toArray_toList]
    exact he
theorem vals_keys {P : Program} {w : World} : ∀ {kvs : List (Key × V)} {vs : List (Key × Value)} {us : List Value}, KV kvs vs → us.length = vs.length →
    (∀ (j : Nat) (u : Value), us[j]? = some u → ∃ k x, vs[j]? = some (k, x) ∧ (mixKind P w).is k u = true) → Vals (kvs.map fun kv => kV kv.1) us
  | _, _, us, .nil, hl, _ => by
    have : us = [] := List.length_eq_zero_iff.mp hl
    subst this
    exact .nil
  | _, _, us, .cons (a := p) (b := q) r t, hl, hu => by
    cases us with
    | nil => simp at hl
    | cons u us =>
      obtain ⟨k', x, h1, h2⟩ := hu 0 u rfl
      have h1' : q = (k', x) := by simpa using h1
      subst h1'
      refine .cons ?_ (vals_keys t (by simpa using hl) fun j u' h => hu (j + 1) u' (by simpa using h))
      have e : p.1 = k' := r.1
      show RelV (kV p.1) u
      rw [e]
      rcases keyIs_shape h2 with ⟨i, t, rfl, rfl⟩ | ⟨y, t, rfl, rfl⟩
      · exact ⟨t, rfl⟩
      · exact ⟨t, rfl⟩
/-- list(d) -/
theorem call_listD (hc : X.calm = true) : CallR X (.type "list") (fun xs H Q => ∃ d kvs, xs = [.ref d] ∧ H d = some (.dK kvs) ∧ ∀ l, H l = none → Q (.ref l) (upd H l (.lst (kvs.map fun kv => kV kv.1)))) := by
  intro pins s σ H xs us Q I r h
  obtain ⟨d, kvs, rfl, hd, q⟩ := h
  obtain ⟨u, rfl, rx⟩ := vals1 r
  cases rx
  obtain ⟨hz, lo, vs, rel, dd⟩ := dk_of I.hok hd
  obtain ⟨ep, hat⟩ := dd.dictAt
  have hh := I.ok.hd hc
  have hn : vs.length ≤ sizeLine := by rw [← rel.length]; exact hz
  refine PySem.W.kdl_call (PySem.W.kdl_dict (knd := mixKind X.prog X.w) (kvs := vs) (ep := ep) lo) hh hat hn fun h' tk acc c kp hD hacc => ?_
  have hl : acc.toList.length = vs.length := by rw [Array.length_toList]; exact hacc.1
  refine ⟨.ref s.heap.objs.size, _, I.laid (t' := tk) kp (Nat.le_refl _) (show ObjOk X.prog X.w _ h' _ (.lst (kvs.map fun kv => kV kv.1)) from ⟨?_, acc.toList, c, vals_keys (P := X.prog) (w := X.w) rel hl fun j u e => hacc.2 j u (by rw [← Array.getElem?_toList]; exact e), ?_⟩), rfl, q _ (I.hok.fresh (Nat.le_refl _))⟩
  · rw [List.length_map]; exact hz
  · rw [Array.toArray_toList]; exact hD
/-- the view of a dict's values -/
def viewV (v d : Addr) : HO := .ext fun h => h.IsValuesView v d
theorem mt_values : MtR X "dict.values" (fun x xs H Q => ∃ d kvs, x = .ref d ∧ xs = [] ∧ H d = some (.dK kvs) ∧ ∀ v, H v = none → Q (.ref v) (upd H v (viewV v d))) := by
  intro pins s σ H x xs v us Q I rx rs h
  obtain ⟨d, kvs, rfl, rfl, hd, q⟩ := h
  cases rx
  have := rs.zero
  subst this
  obtain ⟨hz, lo, vs, rel, dd⟩ := dk_of I.hok hd
  refine call_meetsIn PySem.F.slot_dict_values dd.typeIs PySem.F.entry_dict_values (PySem.F.args_dict_values_1 _) (meets_dict_values (mixKind X.prog X.w) d lo) ⟨⟨vs, dd⟩, ?_⟩
  refine ⟨.ref s.heap.objs.size, _, I.laid (t' := s.toks) (o := viewV s.heap.objs.size d) (fun b o e => Heap.get?_push_of_some _ e) (Nat.le_refl _) ⟨⟨_, Heap.get?_push_size _ rfl, rfl, rfl⟩, ⟨_, Heap.get?_push_size _ rfl⟩, fun h1 h2 ⟨o, e, r⟩ k => ⟨o, k o e, r⟩⟩, rfl, q _ (I.hok.fresh (Nat.le_refl _))⟩
/-- list(d.values()) -/
theorem call_listV (hc : X.calm = true) : CallR X (.type "list") (fun xs H Q => ∃ v d kvs, xs = [.ref v] ∧ H v = some (viewV v d) ∧ H d = some (.dK kvs) ∧ ∀ l, H l = none → Q (.ref l) (upd H l (.lst (kvs.map (·.2))))) := by
  intro pins s σ H xs us Q I r h
  obtain ⟨v, d, kvs, rfl, hv, hd, q⟩ := h
  obtain ⟨u, rfl, rx⟩ := vals1 r
  cases rx
  obtain ⟨hz, lo, vs, rel, dd⟩ := dk_of I.hok hd
  obtain ⟨ep, hat⟩ := dd.dictAt
  obtain ⟨hview, _⟩ := (show ObjOk X.prog X.w H s.heap v (viewV v d) from I.hok v _ hv)
  have hh := I.ok.hd hc
  have hn : vs.length ≤ sizeLine := by rw [← rel.length]; exact hz
  refine PySem.W.kdl_call (PySem.W.kdl_values (knd := mixKind X.prog X.w) (kvs := vs) (ep := ep)) hh ⟨hview, hat⟩ hn fun h' tk acc c kp hD hacc => ?_
  have hl : acc.toList.length = vs.length := by rw [Array.length_toList]; exact hacc.1
  have e : acc.toList = vs.map (·.2) := PySem.W.kdl_vals_eq acc.toList hl fun j u e => hacc.2 j u (by rw [← Array.getElem?_toList]; exact e)
  have rv : ∀ {kvs : List (Key × V)} {vs : List (Key × Value)}, KV kvs vs → Vals (kvs.map (·.2)) (vs.map (·.2)) := fun {kvs vs} r => by
    induction r with
    | nil => exact .nil
    | cons r t ih => exact .cons r.2 ih
  refine ⟨.ref s.heap.objs.size, _, I.laid (t' := tk) kp (Nat.le_refl _) (show ObjOk X.prog X.w _ h' _ (.lst (kvs.map (·.2))) from ⟨?_, acc.toList, c, by rw [e]; exact rv rel, ?_⟩), rfl, q _ (I.hok.fresh (Nat.le_refl _))⟩
  · rw [List.length_map]; exact hz
  · rw [Array.toArray_toList]; exact hD

/-! ### == of two lists of flat items -/
def eqVs : List V → List V → Bool
  | [], [] => true
  | x :: xs, y :: ys => eqV x y && eqVs xs ys
  | _, _ => false
theorem eqVs_len {xs ys : List V} (h : xs.length ≠ ys.length) : eqVs xs ys = false := by
  induction xs generalizing ys with
  | nil => cases ys with
    | nil => exact absurd rfl h
    | cons _ _ => rfl
  | cons x xs ih => cases ys with
    | nil => rfl
    | cons y ys =>
      show (eqV x y && eqVs xs ys) = false
      rw [ih (by simpa using h), Bool.and_false]
theorem eqVs_range : ∀ {xs ys : List V}, xs.length = ys.length → eqVs xs ys = (List.range xs.length).all fun j => eqV (xs.getD j .non) (ys.getD j .non)
  | [], [], _ => rfl
  | [], _ :: _, h => by simp at h
  | _ :: _, [], h => by simp at h
  | x :: xs, y :: ys, h => by
    show (eqV x y && eqVs xs ys) = _
    rw [List.length_cons, List.range_succ_eq_map, List.all_cons, List.all_map, eqVs_range (by simpa using h)]
    rfl
def rEqL (K : PySem.W.Frag) : R2 := fun x y H Q => ∃ a b xs ys, x = .ref a ∧ y = .ref b ∧ SqL K H a xs ∧ SqL K H b ys ∧ xs.all flatV = true ∧ ys.all flatV = true ∧ Q (.bl (eqVs xs ys)) H
theorem op_eqL (hu : X.A.units < cLine) : OpR X (compareOp .Eq) (rEqL X.K) := by
  intro pins s σ H x y v u Q I rx ry h
  obtain ⟨a, b, xs, ys, rfl, rfl, ha, hb, fx, fy, q⟩ := h
  cases rx
  cases ry
  obtain ⟨its, r1, p1, _⟩ := I.list ha
  obtain ⟨its2, r2, p2, _⟩ := I.list hb
  have e1 := r1.length
  have e2 := r2.length
  by_cases hl : xs.length = ys.length
  · refine SeqAt.eq_listAt (e := fun j => eqV (xs.getD j .non) (ys.getD j .non)) p1.isList p2.isList (by simp only [List.size_toArray]; omega) hu (fun j h1 h2 => ?_) ?_
    · have h1' : j < its.length := by simpa using h1
      have h2' : j < its2.length := by simpa using h2
      have hx : xs[j]? = some (xs.getD j .non) := by rw [List.getD_eq_getElem?_getD]; simp [show j < xs.length by omega]
      have hy : ys[j]? = some (ys.getD j .non) := by rw [List.getD_eq_getElem?_getD]; simp [show j < ys.length by omega]
      obtain ⟨u1, q1, w1⟩ := r1.get hx
      obtain ⟨u2, q2, w2⟩ := r2.get hy
      have g1 : its.toArray[j] = u1 := by
        have : its[j]? = some its[j] := by simp [h1']
        rw [this] at q1
        simpa using Option.some.inj q1
      have g2 : its2.toArray[j] = u2 := by
        have : its2[j]? = some its2[j] := by simp [h2']
        rw [this] at q2
        simpa using Option.some.inj q2
      rw [g1, g2]
      exact eqAt_V w1 w2 (List.all_eq_true.mp fx _ (List.mem_of_getElem? hx)) (List.all_eq_true.mp fy _ (List.mem_of_getElem? hy))
    · rw [eqVs_range hl] at q
      refine ⟨.bl _, H, I, rfl, ?_⟩
      rw [List.size_toArray, ← e1]
      exact q
  · refine SeqAt.eq_list_lengthsAt p1.isList p2.isList (by simp only [List.size_toArray, bne_iff_ne]; omega) hu ⟨.bl false, H, I, rfl, ?_⟩
    rw [eqVs_len hl] at q
    exact q

/-! ### isinstance -/
theorem call_isinst : CallR X (.builtin "isinstance") (fun xs H Q => ∃ x T t b, xs = [x, .ty T] ∧ TyOf X.K H x t ∧ PySem.W.kitOne X.K t (.type T) = some b ∧ Q (.bl b) H) := by
  intro pins s σ H xs us Q I r h
  obtain ⟨x, T, t, b, rfl, ty, e, q⟩ := h
  obtain ⟨u, w', rfl, r1, r2⟩ := vals2 r
  cases r2
  exact isinst_ok I r1 ty e fun tk => ⟨.bl b, H, I.tok tk, rfl, q⟩

/-! ### texts: slices, join -/
def cutS (z : Str) (lo hi : Option Int) : Str := Txt.slice z lo hi
theorem sl_str : SlR X (fun x lo hi H Q => ∃ z, x = .str z ∧ z.length ≤ sizeLine ∧ Q (.str (Txt.slice z lo hi)) H) := by
  intro pins s σ H x v vl vu lo hi sl Q I rx hs pl pu h
  obtain ⟨z, rfl, hz, q⟩ := h
  obtain ⟨t, rfl⟩ := rx
  refine ⟨"str", _, slot_str_getitem.lookup, typeIs_str s z t, ?_⟩
  have fin : ∀ t' k, EP X pins σ Q (.str (Txt.slice z lo hi) t') { s with toks := k } := fun t' k => ⟨.str _, H, I.tok k, ⟨t', rfl⟩, q⟩
  obtain ⟨o, ho, hc, hd⟩ := hs
  cases pl with
  | none => cases pu with
    | none => exact wpAny_getItem_str_slice (l := none) (u := none) (st := none) ⟨o, ho, hc, hd⟩ rfl (post_val_or_str ⟨Nat.le_trans (Txt.slice_le z _ _) hz, fin⟩)
    | int j uj => exact wpAny_getItem_str_slice (l := none) (u := some (j, uj)) (st := none) ⟨o, ho, hc, hd⟩ rfl (post_val_or_str ⟨Nat.le_trans (Txt.slice_le z _ _) hz, fin⟩)
  | int i ui => cases pu with
    | none => exact wpAny_getItem_str_slice (l := some (i, ui)) (u := none) (st := none) ⟨o, ho, hc, hd⟩ rfl (post_val_or_str ⟨Nat.le_trans (Txt.slice_le z _ _) hz, fin⟩)
    | int j uj => exact wpAny_getItem_str_slice (l := some (i, ui)) (u := some (j, uj)) (st := none) ⟨o, ho, hc, hd⟩ rfl (post_val_or_str ⟨Nat.le_trans (Txt.slice_le z _ _) hz, fin⟩)
theorem mt_join : MtR X "str.join" (fun x xs H Q => ∃ z p ts, x = .str z ∧ xs = [.ref p] ∧ SqL X.K H p (List.map V.str ts) ∧ (ts.map (·.length)).sum + ts.length * z.length ≤ 16777216 ∧ Q (.str (Txt.join z ts)) H) := by
  intro pins s σ H x xs v us Q I rx rs h
  obtain ⟨z, p, ts, rfl, rfl, hq, hz, q⟩ := h
  obtain ⟨t, rfl⟩ := rx
  obtain ⟨u, rfl, ru⟩ := rs.one
  cases ru
  obtain ⟨its, rv, pl, _⟩ := I.list hq
  exact join_list pl.isList (by simpa using strsAre_of rv) hz fun t' k => ⟨.str _, H, I.tok k, ⟨t', rfl⟩, q⟩
end

/-! ### enumerate of a list -/
def Ite (K : PySem.W.Frag) (a : Addr) : It :=
  ⟨fun i H => ∃ xs x, SqL K H a xs ∧ xs[i]? = some x, fun i H x H' => ∃ T xv, H T = none ∧ x = .ref T ∧ H' = upd H T (.tup [.int (i : Nat), xv]) ∧ ∀ xs, SqL K H a xs → xs[i]? = some xv, fun i H => ∃ xs, SqL K H a xs ∧ xs.length ≤ i⟩
theorem turn_enum {P : Program} {w : World} {K : PySem.W.Frag} {elts : List Expr} {k : Nat} {pos : Pos} (a e it : Addr) (hei : e ≠ it) : Turn P w K (.Tuple elts k pos) (Ite K a) [e, it] e (fun i h => (∃ old, IsEnum h e it (i : Nat) old) ∧ h.IsListIter it a i) where
  mem := by simp
  obj := fun i h st b hb => by
    obtain ⟨⟨old, he⟩, o, ho, hc, hd⟩ := st
    rcases List.mem_cons.mp hb with rfl | hb
    · exact ⟨_, he, fun v z => by
        have z' : Data.fields _ = Data.cell v := z
        cases z'⟩
    · have e' : b = it := by simpa using hb
      subst e'
      exact ⟨o, ho, fun v z => by rw [hd] at z; cases z⟩
  keep := fun i h h' st k => ⟨st.1.imp fun old he => k e (by simp) _ he, st.2.at fun o q => k it (by simp) o q⟩
  item := by
    intro X hP hw hK hc i pins s σ H E I hf st hg
    subst hP hw hK
    obtain ⟨xs, x, hq, hx⟩ := hg
    obtain ⟨its, rv, p, hz⟩ := I.list hq
    obtain ⟨u, hu, ru⟩ := rv.get hx
    obtain ⟨⟨old, he⟩, hit⟩ := st
    obtain ⟨f0, f1, f2, f3, f4, f5⟩ := hf e (by simp)
    obtain ⟨g0, g1, g2, g3, g4, g5⟩ := hf it (by simp)
    refine wpAny_pyNext_enum_item he hit p.isList (x := u) (by simpa using hu) hei fun h' ho hit' hT hsz hk => ?_
    refine ⟨_, rfl, wpAny_letOwnedTupleGo_enum ho fun h'' he' hs' => ?_⟩
    have kp : ∀ b o, b ≠ e → b ≠ it → s.heap.get? b = some o → h''.get? b = some o := fun b o h1 h2 q => (hs'.2 b h1).trans (hk b o h1 h2 q)
    have elt : e < s.heap.objs.size := Heap.lt_size he
    have hTe : s.heap.objs.size ≠ e := Nat.ne_of_gt elt
    have hT' : h''.get? s.heap.objs.size = some { cls := .type "tuple", data := .seq #[.int i s.toks, u] } := (hs'.2 _ hTe).trans hT
    have fr := I.hok.fresh (Nat.le_refl s.heap.objs.size)
    have ntr : ∀ b o, H b = some o → b ≠ e ∧ b ≠ it := fun b o q => ⟨(fun z => by rw [z, f0] at q; cases q), (fun z => by rw [z, g0] at q; cases q)⟩
    have hok' : HOk X.prog X.w (upd H s.heap.objs.size (.tup [.int (i : Nat), x])) h'' := by
      intro b o q
      by_cases hb : b = s.heap.objs.size
      · subst hb
        rw [upd_same] at q
        cases q
        exact ⟨by show 2 ≤ sizeLine; decide, [.int i s.toks, u], .cons ⟨_, rfl⟩ (.cons ru .nil), ⟨_, hT', rfl, _, rfl⟩⟩
      · rw [upd_ne hb] at q
        refine (I.hok b o q).stay (fun c v hc r => ?_) (fun c r => by rw [upd_ne (ne_of_none r fr)]; exact r) fun c ys r => by rw [upd_ne (ne_of_none r fr)]; exact r
        rcases hc with z | z
        · rw [z] at r ⊢
          exact kp b v (ntr b o q).1 (ntr b o q).2 r
        · exact kp c v (ntr c _ z).1 (ntr c _ z).2 r
    have I1 : Inv X pins σ (upd H s.heap.objs.size (.tup [.int (i : Nat), x])) { s with heap := h'', gens := s.gens, drawn := s.drawn, toks := s.toks + 1 } := by
      refine I.step (ch := [e, it]) (fun b hb => ?_) (fun b o _ _ hc q _ => kp b o (fun z => hc (by simp [z])) (fun z => hc (by simp [z])) q) (fun b o _ _ hc q _ => ⟨o.slots, kp b o (fun z => hc (by simp [z])) (fun z => hc (by simp [z])) q⟩)
        (fun b o _ q n => by rw [upd_ne (Nat.ne_of_lt (Heap.lt_size q))]; exact n) (fun b o hc q => ⟨o, kp b o (fun z => hc (by simp [z])) (fun z => hc (by simp [z])) q⟩)
        (fun b ys r => by rw [upd_ne (ne_of_none r fr)]; exact r) (fun b o u r => by rw [upd_ne (ne_of_none r fr)]; exact r) (fun b ps r => ⟨#[], by rw [upd_ne (ne_of_none r fr), r]; simp⟩)
        (fun m ⟨o, es, ep, ho', r⟩ => ⟨o, es, ep, kp _ o (Ne.symm f1) (Ne.symm g1) ho', r⟩) hok' I.bare
      rcases List.mem_cons.mp hb with rfl | hb
      · exact ⟨f3, f1, f4, f5⟩
      · have e' : b = it := by simpa using hb
        subst e'
        exact ⟨g3, g1, g4, g5⟩
    refine ⟨.ref s.heap.objs.size, _, I1, rfl, ⟨s.heap.objs.size, x, fr, rfl, rfl, fun ys hy => by rw [I.list_inj hy hq]; exact hx⟩, ⟨⟨u, by simpa using he'⟩, ?_⟩, fun b hb => ?_⟩
    · exact hit'.at fun o q => (hs'.2 it (Ne.symm hei)).trans q
    · have : b < s.heap.objs.size := by
        rcases List.mem_cons.mp hb with rfl | hb
        · exact elt
        · have e' : b = it := by simpa using hb
          subst e'
          obtain ⟨o, q, _⟩ := hit
          exact Heap.lt_size q
      rw [upd_ne (Nat.ne_of_lt this)]
      exact (hf b hb).1
  done := by
    intro X hP hw hK hc i pins s σ H E I hf st hg
    subst hP hw hK
    obtain ⟨xs, hq, hx⟩ := hg
    obtain ⟨its, rv, p, hz⟩ := I.list hq
    have hl := rv.length
    obtain ⟨⟨old, he⟩, hit⟩ := st
    obtain ⟨g0, g1, g2, g3, g4, g5⟩ := hf it (by simp)
    exact wpAny_pyNext_enum_end (I.ok.hd hc) he hit p.isList (Array.getElem?_eq_none (by simp; omega)) fun h' eb => ⟨rfl, I.turned (t' := s.toks) (fun b o hb e => eb b o hb e) g0 g1 g3 g4 g5⟩
  self := fun _ _ _ _ _ st h => let ⟨⟨_, he⟩, _⟩ := st; wpAny_pyIter_enum he h
theorem boot_enumerate' : bootBuiltins "enumerate" = some (.type "enumerate") := by decide +kernel
section
variable {X : Cx}
def iEnum (K : PySem.W.Frag) (ta : TA) : TI := fun σ H R => ta σ H fun vs H1 => ∃ a xs, vs = [.ref a] ∧ SqL K H1 a xs ∧ R (Ite K a) H1
theorem pi_enum {elts : List Expr} {k : Nat} {tpos : Pos} {l : Expr} {ta : TA} {p pos : Pos} (hg : Gl X "enumerate") (hm : X.mg "enumerate" = none) (ha : PA X [l] ta) (hs : starEach [l] X.env = [(false, eval l X.env)] := by rfl) :
    PI X (.Tuple elts k tpos) (.Call (.Name "enumerate" p) [l] [] pos) (iEnum X.K ta) := by
  intro pins s σ H R I h
  refine Call_ (ld_blt I hg hm boot_enumerate' (PyProof.Rows.callWith_type1 (thn (ha pos pins s σ H _ I h) fun us s1 ⟨vs, H1, I1, r1, q1⟩ => ?_) hs rfl))
  obtain ⟨a, xs, e, hq, q⟩ := q1
  subst e
  obtain ⟨u, rfl, ru⟩ := vals1 r1
  cases ru
  obtain ⟨its, rv, pl, hz⟩ := I1.list hq
  refine call_enumerate_list pl.isList fun h' he hit hsz kp => wpAny_pyIter_enum he ?_
  have I2 : Inv X pins σ H1 { s1 with heap := h' } := I1.kept (t' := s1.toks) kp
  refine ⟨s1.heap.objs.size + 1, [s1.heap.objs.size + 1, s1.heap.objs.size], _, _, H1, rfl, I2, turn_enum a _ _ (Nat.ne_of_gt (Nat.lt_succ_self _)), ⟨⟨_, he⟩, hit⟩, fun b hb => ?_, q⟩
  have hb' : s1.heap.objs.size ≤ b := by
    rcases List.mem_cons.mp hb with rfl | hb
    · exact Nat.le_succ _
    · have e' : b = s1.heap.objs.size := by simpa using hb
      subst e'
      exact Nat.le_refl _
  exact I1.fpOk hb' (I1.hok.fresh hb')
end
theorem for_enum {K : PySem.W.Frag} {a : Addr} {xs : List V} {g : TG} {tb : TS} {D : Ends} {σ : St} {H : Hp} (Pv : Nat → St → Hp → Prop) (h0 : Pv 0 σ H) (hl : ∀ i σ H, i ≤ xs.length → Pv i σ H → SqL K H a xs)
    (hs : ∀ i x σ H T, xs[i]? = some x → Pv i σ H → H T = none → g (.ref T) σ (upd H T (.tup [.int (i : Nat), x])) fun σ2 H2 => tb { D with nx := Pv (i + 1), ct := Pv (i + 1), bk := D.nx } σ2 H2) (hd : ∀ σ H, Pv xs.length σ H → D.nx σ H) :
    ∃ W : Nat → Nat → St → Hp → Prop, (∃ m, W 0 m σ H) ∧ ∀ i m σ H, W i m σ H →
      ((Ite K a).stop i H ∧ D.nx σ H) ∨ ((Ite K a).go i H ∧ ∃ N : St → Hp → Prop, (∀ σ' H', N σ' H' → ∃ m', m' < m ∧ W (i + 1) m' σ' H') ∧ ∀ x H', (Ite K a).yld i H x H' → g x σ H' fun σ2 H2 => tb { D with nx := N, ct := N, bk := D.nx } σ2 H2) := by
  refine ⟨fun i m σ H => m = xs.length - i ∧ i ≤ xs.length ∧ Pv i σ H, ⟨xs.length, by simp, Nat.zero_le _, h0⟩, ?_⟩
  rintro i m σ H ⟨rfl, hi, p⟩
  have q := hl i σ H hi p
  by_cases hlt : i < xs.length
  · refine .inr ⟨⟨xs, xs[i], q, by simp [hlt]⟩, Pv (i + 1), fun σ' H' p' => ⟨xs.length - (i + 1), by omega, rfl, hlt, p'⟩, fun x H' y => ?_⟩
    obtain ⟨T, xv, hT, e1, e2, y⟩ := y
    subst e1 e2
    exact hs i xv σ _ T (y xs q) p hT
  · have e : i = xs.length := by omega
    subst e
    exact .inl ⟨⟨xs, q, Nat.le_refl _⟩, hd σ H p⟩
end L2

set_option Elab.async false
set_option linter.all false
set_option maxRecDepth 100000
/-! ### a set of a text's signs: only its size is asked -/
namespace L2
open PySem PySem.Spec PyProof.Rows
def stepD (σ : List Str) (v : Str) : List Str := if σ.any (· == v) = true then σ else σ ++ [v]
def firstD (val : Nat → Str) (i : Nat) : List Str := ((List.range i).map val).foldl stepD []
theorem firstD_succ (val : Nat → Str) (i : Nat) : firstD val (i + 1) = stepD (firstD val i) (val i) := by
  unfold firstD; rw [List.range_succ, List.map_append, List.foldl_append]; rfl
theorem firstD_le (val : Nat → Str) : ∀ i, (firstD val i).length ≤ i
  | 0 => Nat.le_refl _
  | i + 1 => by
    rw [firstD_succ]; unfold stepD
    have ih := firstD_le val i
    split
    · omega
    · rw [List.length_append, List.length_singleton]; omega
theorem stepD_any (σ : List Str) (v k : Str) : (stepD σ v).any (· == k) = (σ.any (· == k) || decide (k = v)) := by
  unfold stepD
  by_cases h : σ.any (· == v) = true
  · rw [if_pos h]
    by_cases e : k = v
    · subst e; rw [h]; simp
    · simp [e]
  · rw [if_neg h, List.any_append]
    by_cases e : k = v
    · subst e; simp
    · have hb : (v == k) = false := by simpa [beq_iff_eq] using (fun h' : v = k => e h'.symm)
      simp [hb, e]
theorem stepD_length (σ : List Str) (v : Str) : (stepD σ v).length = if σ.any (· == v) then σ.length else σ.length + 1 := by
  unfold stepD; split <;> simp
theorem sub_str_set : isSubtype (.type "str") (.type "set") = pure false := by rw [isSubtype_type]; kernel_rfl
theorem sub_str_frozenset : isSubtype (.type "str") (.type "frozenset") = pure false := by rw [isSubtype_type]; kernel_rfl
theorem strIs (P : Program) (w : World) (x : Str) (t : Tok) : (PySem.strKind P w).is x (.str x t) = true := by simp [PySem.strKind, Value.isStrOf]
section
variable {prog : Program} {w : World} {A : Around} {R : Result → Shared → Prop} {I : Addr} {fp wr : List Addr} {G : Array GenState → Array GenState → Prop} {n : Nat} {P : Nat → Value → Prop} {St : Nat → Shared → Prop}
theorem set_loopStr (W : WalksS prog w A.in1 I fp wr G n P St) (S : Addr) (hSf : S ∉ fp)
    (val : Nat → Str) (hval : ∀ i v, P i v → ∃ t, v = .str (val i) t) (hb : n + 1 < scanBound) :
    ∀ (k i : Nat) (s : Shared), n - i = k → i ≤ n → St i s →
      s.heap.SetOf (PySem.strKind prog w) S (fun k' => (firstD val i).any (· == k')) (firstD val i).length →
      (∀ s', Moved (S :: wr) G s s' → s'.heap.SetOf (PySem.strKind prog w) S (fun k' => (firstD val n).any (· == k')) (firstD val n).length → R (.ok (.ret .none)) s') →
      codeAny (model prog w) A (.builtin "set.update.loop" ⟨[.ref S, .ref I], []⟩) R s := by
  have hSw : S ∉ wr := fun h => hSf (W.sub _ h)
  have hsub : ∀ b ∈ wr, b ∈ S :: wr := fun b hb => List.mem_cons_of_mem _ hb
  intro k
  induction k with
  | zero =>
    intro i s hk hi hst hS hR
    have hin : i = n := by omega
    subst hin
    refine codeAny_builtin PyProof.Rows.F.entry_set_update_loop ?_
    rw [Around.under_plainId PyProof.Rows.F.plain_set_update_loop _]
    show wpAny _ A.in1 (pyNext (.ref I) >>= _) _ _ s
    refine wpAny_bind (W.done s _ _ hst fun s' hm => ?_)
    show wpAny _ A.in1 (ret Value.none) _ _ s'
    exact wpAny_pure (hR s' (hm.mono hsub) (by
      obtain ⟨o, es, ep, t, ho, rest⟩ := hS
      exact ⟨o, es, ep, t, hm.heap S _ hSw ho, rest⟩))
  | succ k ih =>
    intro i s hk hi hst hS hR
    have hlt : i < n := by omega
    refine codeAny_builtin PyProof.Rows.F.entry_set_update_loop ?_
    rw [Around.under_plainId PyProof.Rows.F.plain_set_update_loop _]
    show wpAny _ A.in1 (pyNext (.ref I) >>= _) _ _ s
    refine wpAny_bind (W.item i s _ _ hlt hst fun v s' hP hst' hm => ?_)
    obtain ⟨t, rfl⟩ := hval i v hP
    have hS' : s'.heap.SetOf (PySem.strKind prog w) S (fun k' => (firstD val i).any (· == k')) (firstD val i).length := by
      obtain ⟨o, es, ep, tb, ho, rest⟩ := hS
      exact ⟨o, es, ep, tb, hm.heap S _ hSw ho, rest⟩
    show wpAny _ A.in1 (holding [Value.str (val i) t] (setAdd S (.str (val i) t)) >>= _) _ _ s'
    refine wpAny_bind (wpAny_holding ?_)
    unfold setAdd
    refine wpAny_holding ?_
    refine wpAny_bind ((PySem.strKind prog w).pyHash (k := val i) (strIs _ _ _ _) ?_)
    have hroom : (firstD val i).length + 1 < scanBound := by have := firstD_le val i; omega
    refine wpAny_setAddHashed_of (knd := PySem.strKind prog w) (s := { s' with toks := s'.toks + 1 }) (strIs _ _ _ _) rfl hS' hroom fun h' hsb hS2 => ?_
    have hSi : h'.SetOf (PySem.strKind prog w) S (fun k' => (firstD val (i + 1)).any (· == k')) (firstD val (i + 1)).length :=
      SetOf_congr hS2 (fun k' => by rw [firstD_succ, stepD_any]) (by rw [firstD_succ, stepD_length])
    refine wpAny_pure ⟨plainId_quiet PyProof.Rows.F.plain_set_update_loop _, ih (i + 1) _ (by omega) hlt (W.frame _ s' _ _ hst' (Nat.le_succ _) fun b hb o e => ?_) hSi fun s'' hm'' hS'' => ?_⟩
    · rw [hsb.2 b (fun h : b = S => hSf (by rw [← h]; exact hb))]; exact e
    · refine hR s'' (Moved.trans W.gtrans ((hm.mono hsub).then_heap (Nat.le_succ _) fun b o hb e => ?_) hm'') hS''
      rw [hsb.2 b (fun h : b = S => hb (by rw [h]; exact List.mem_cons_self))]; exact e
end

section
variable {prog : Program} {w : World} {A : Around} {E : Value → Shared → Prop} {s : Shared}
def signAt (x : Str) (i : Nat) : Str := ⟨#[x.cps.getD i 0]⟩
set_option maxRecDepth 100000 in
set_option maxHeartbeats 3200000 in
theorem call_set_str {x : Str} {tx : Tok} {Q : Value → Shared → Prop}
    (hh : A.handled = none) (hb : x.cps.size + 1 < scanBound)
    (h : ∀ (h' : Heap) (tk : Nat), h'.SetOf (PySem.strKind prog w) s.heap.objs.size (fun k' => (firstD (signAt x) x.cps.size).any (· == k')) (firstD (signAt x) x.cps.size).length →
      (∀ b o, b < s.heap.objs.size → s.heap.get? b = some o → h'.get? b = some o) → Q (.ref s.heap.objs.size) { s with heap := h', toks := tk }) :
    wpAny (model prog w) A (call (.type "set") [.str x tx]) Q E s := by
  obtain ⟨c, tl, hmro⟩ := PySem.F.called_set.mro
  have hmade := PySem.F.called_set.made
  have hsub := PySem.F.called_set.sub
  refine wpAny_call (codeAny_of_tree ?_)
  show wpAny _ _ (callAny (.type "set") _) _ _ _
  refine wpAny_pure ⟨Code.quiet_builtin _ (by decide +kernel), codeAny_builtin PySem.F.entry_type_call ?_⟩
  rw [Around.under_plain (weight_type_call_type "set" [.str x tx] []) rfl]
  have h1 := PySem.F.called_set.notType
  have h2 := PySem.F.called_set.canCreate
  have hct := PySem.F.typeCall_set_1 (.str x tx)
  repeat (any_goals (first | assumption | wp_step))
  refine codeAny_mono (code_set_new_1 (.str x tx) (E := E) (Q₁ := fun obj s₁ => ∃ led : Bool, obj = .ref s.heap.objs.size ∧ s₁ = { s with heap := s.heap.push { cls := .type "set", dict := none, data := .set #[] 0 (.fresh 0 0 led) } }) fun led => ⟨led, rfl, rfl⟩) fun r s₁ hr => ?_
  cases r with
  | error e => exact hr
  | ok fl =>
    cases fl with
    | ret obj =>
      obtain ⟨led, rfl, rfl⟩ := hr
      have hS : (s.heap.push { cls := .type "set", dict := none, data := .set #[] 0 (.fresh 0 0 led) }).get? s.heap.objs.size = some { cls := .type "set", dict := none, data := .set #[] 0 (.fresh 0 0 led) } := Heap.get?_push_size _ rfl
      have hT : Shared.TypeIs { s with heap := s.heap.push { cls := .type "set", dict := none, data := .set #[] 0 (.fresh 0 0 led) } } (.ref s.heap.objs.size) "set" := ⟨_, hS, rfl⟩
      have hli := PySem.F.called_set.init.lookup
      have hbi := PySem.F.called_set.init.bind (.ref s.heap.objs.size)
      repeat (any_goals (first | assumption | wp_step))
      refine codeAny_mono (codeAny_call_builtin (R := wants (fun r s₂ => r = .none ∧ ∃ h' tk, s₂ = { s with heap := h', toks := tk } ∧
          h'.SetOf (PySem.strKind prog w) s.heap.objs.size (fun k' => (firstD (signAt x) x.cps.size).any (· == k')) (firstD (signAt x) x.cps.size).length ∧
          (∀ b o, b < s.heap.objs.size → s.heap.get? b = some o → h'.get? b = some o)) E) PySem.F.called_set.init.plain PySem.F.entry_set_init (check_set_init_1 hT ?_)) fun r₂ s₂ hr₂ => ?_
      · have hsls := sub_str_set
        have hslf := sub_str_frozenset
        have hne : (Value.type "str" == Value.type "dict") = false := by decide
        unfold Builtin.«set.__init__» noKeywords Builtin.Frozenset.updateFrom
        generalize hPI : pyIter = PI
        wp_walk
        subst hPI
        refine wpAny_pyIter_str fun o St hW hst => ?_
        refine wpAny_bind (wpAny_runValue ?_)
        have hh3 : A.in1.in1.in1.handled = none := by simp [hh]
        have hSf : s.heap.objs.size ∉ [(s.heap.push { cls := .type "set", dict := none, data := .set #[] 0 (.fresh 0 0 led) }).objs.size] := by
          rw [Heap.size_push]; simp only [List.mem_cons, List.mem_singleton, List.not_mem_nil, or_false, not_or]
          exact Nat.ne_of_lt (Nat.lt_succ_self _)
        have hval : ∀ (i : Nat) (v : Value), SignAt x i v → ∃ t, v = .str (signAt x i) t := fun i v hv => by
          obtain ⟨c, u, hc, e⟩ := hv
          refine ⟨u, ?_⟩
          rw [e]
          unfold signAt
          rw [Array.getD_eq_getD_getElem?, hc]
          rfl
        refine set_loopStr ((hW _ hh3).toS) s.heap.objs.size hSf (signAt x) hval hb (x.cps.size - 0) 0 _ (by omega) (Nat.zero_le _) hst ?hS0 ?hR
        case hS0 =>
          have hget : ((s.heap.push { cls := .type "set", dict := none, data := .set #[] 0 (.fresh 0 0 led) }).push o).get? s.heap.objs.size
              = some { cls := .type "set", dict := none, data := .set #[] 0 (.fresh 0 0 led) } := Heap.get?_push_of_some _ hS
          exact SetOf_congr ((setObjOf_fresh (knd := PySem.strKind prog w) led).setOf hget (by unfold scanBound; omega)) (fun _ => rfl) rfl
        case hR =>
          intro s' hm hS'
          obtain ⟨h', g', d', tk', os'⟩ := s'
          have eg : g' = s.gens := hm.gens
          have ed : d' = s.drawn := hm.drawn
          have eo : os' = s.os := hm.os
          subst eg; subst ed; subst eo
          show wpAny _ _ _ _ _ _
          refine wpAny_pure ?_
          show wpAny _ _ (ret Value.none) _ _ _
          refine wpAny_pure ⟨rfl, h', tk', rfl, hS', fun b o' hb e => ?_⟩
          have hb1 : b ≠ s.heap.objs.size := Nat.ne_of_lt hb
          have hb2 : b ≠ (s.heap.push { cls := .type "set", dict := none, data := .set #[] 0 (.fresh 0 0 led) }).objs.size := by
            rw [Heap.size_push]; exact Nat.ne_of_lt (Nat.lt_succ_of_lt hb)
          exact hm.heap b o' (by simp only [List.mem_cons, List.mem_singleton, List.not_mem_nil, or_false, not_or]; exact ⟨hb1, hb2⟩) (Heap.get?_push_of_some _ (Heap.get?_push_of_some _ e))
      · cases r₂ with
        | error e => exact hr₂
        | ok fl₂ =>
          cases fl₂ with
          | ret r =>
            obtain ⟨rfl, h', tk, rfl, hS', hk'⟩ := hr₂
            repeat (any_goals (first | assumption | wp_step))
            exact h _ _ hS' hk'
          | _ => exact hr₂.elim
    | _ => exact hr.elim
end

section
variable {X : Cx}
/-- a set of texts, by its size -/
def setS (P : Program) (w : World) (a : Addr) (n : Nat) : HO := .ext fun h => ∃ S, h.SetOf (PySem.strKind P w) a S n
theorem call_setStr (hc : X.calm = true) : CallR X (.type "set") (fun xs H Q => ∃ z, xs = [.str z] ∧ z.cps.size + 1 < scanBound ∧ ∀ p, H p = none → Q (.ref p) (upd H p (setS X.prog X.w p (firstD (signAt z) z.cps.size).length))) := by
  intro pins s σ H xs us Q I r h
  obtain ⟨z, rfl, hz, q⟩ := h
  obtain ⟨u, rfl, t, rfl⟩ := vals1 r
  refine call_set_str (I.ok.hd hc) hz fun h' tk hS kp => ?_
  have kp' : ∀ b o, s.heap.get? b = some o → h'.get? b = some o := fun b o e => kp b o (Heap.lt_size e) e
  refine ⟨.ref s.heap.objs.size, _, I.laid (t' := tk) (o := setS X.prog X.w s.heap.objs.size (firstD (signAt z) z.cps.size).length) kp' (Nat.le_refl _) ⟨⟨_, hS⟩, ?_, ?_⟩, rfl, q _ (I.hok.fresh (Nat.le_refl _))⟩
  · obtain ⟨o, _, _, _, e, _⟩ := hS
    exact ⟨o, e⟩
  · rintro h1 h2 ⟨S, o, es, ep, tb, e, rest⟩ k
    exact ⟨S, o, es, ep, tb, k o e, rest⟩
theorem call_lenSet : CallR X (.builtin "len") (fun xs H Q => ∃ p n, xs = [.ref p] ∧ H p = some (setS X.prog X.w p n) ∧ Q (.int n) H) := by
  intro pins s σ H xs us Q I r h
  obtain ⟨p, n, rfl, hp, q⟩ := h
  obtain ⟨u, rfl, rx⟩ := vals1 r
  cases rx
  obtain ⟨⟨S, o, es, ep, tb, e, hex, hd, _, _, hsb, hfits, hn⟩, _⟩ := (show ObjOk X.prog X.w H s.heap p (setS X.prog X.w p n) from I.hok p _ hp)
  refine call_len_set e hex hd hfits (by unfold scanBound at hsb; omega) ⟨.int n, H, I.tok _, ⟨s.toks + 1, ?_⟩, q⟩
  rw [hn]
end
end L2

set_option Elab.async false
set_option linter.all false
set_option maxRecDepth 100000
/-! ### code that runs where tokens are above 0; the frame's own map -/
namespace L2
open PySem PySem.Spec PyProof.Rows
theorem ns_uniq {h : Heap} {a : Addr} {m m' : Str → Option Value} (x : h.Ns a m) (y : h.Ns a m') : m = m' := by
  obtain ⟨o, es, ep, ho, hd, _, hm⟩ := x
  obtain ⟨o', es', ep', ho', hd', _, hm'⟩ := y
  rw [ho] at ho'; cases ho'
  rw [hd] at hd'; cases hd'
  funext n
  rw [← hm n, ← hm' n]
section
variable {X : Cx} {pins : List (Addr × Obj)} {σ : St} {H : Hp} {s : Shared}
theorem loadM {i : Nat} {x : Str} {v : V} {m : Str → Option Value} (I : Inv X pins σ H s) (hn : s.heap.Ns X.env.locals m) (hN : X.N[i]? = some x) (hs : σ[i]? = some (some v)) (hk : X.env.scope.names.lookup x = some .local) : ∃ u, m x = some u ∧ RelV v u := by
  obtain ⟨m0, hn0, hl⟩ := I.loc
  have e := ns_uniq hn hn0
  subst e
  obtain ⟨u, r, l⟩ := hl i x v hN hs (.inl hk)
  rcases l with ⟨_, e⟩ | ⟨k, _⟩
  · exact ⟨u, e, r⟩
  · have k' : X.env.scope.names.lookup x = some .cell ∨ X.env.scope.names.lookup x = some .free := k
    rw [hk] at k'
    rcases k' with z | z <;> cases z
theorem storeM {M : Model} {A : Around} {E : Value → Shared → Prop} {i : Nat} {x : Str} {v : V} {u : Value} {m : Str → Option Value} {Q : Unit → Shared → Prop} (I : Inv X pins σ H s) (hn : s.heap.Ns X.env.locals m) (hN : X.N.Nodup) (hi : X.N[i]? = some x) (hk : X.env.scope.names.lookup x = some .local) (r : RelV v u)
    (h : ∀ s', Inv X pins (σ.set i (some v)) H s' → s'.heap.Ns X.env.locals (fun y => if y = x then some u else m y) → s'.toks = s.toks + 1 → Q () s') : wpAny M A (storeName X.env x u) Q E s := by
  obtain ⟨m0, hn0, hl⟩ := id I.loc
  have e := ns_uniq hn hn0
  subst e
  have hcls : (X.env.scope.kind == .class || (X.env.scope.kind == .module && X.env.locals != X.env.globals)) = false := by rw [I.ok.kind]; rfl
  have hiσ : i < σ.length := by rw [I.len]; exact (List.getElem?_eq_some_iff.mp hi).1
  have cne := I.cne
  refine wpAny_storeName_local hk hn (fun h' hn' hs => ?_) hcls
  obtain ⟨oL, _, _, hoL, _⟩ := id hn
  have tracked : HOk X.prog X.w H h' := fun b ob e => by
    refine (I.hok b ob e).stay (fun c w' hc q => (hs.2 c ?_).trans q) (fun _ q => q) fun _ _ q => q
    rintro rfl
    rcases hc with z | hc
    · rw [← z, I.free] at e; cases e
    · rw [I.free] at hc; cases hc
  refine h _ ⟨I.ok, I.os, I.bare, ⟨fun b o e n hb hx => ?_, fun b o e n hb hx => ?_, I.base.free, fun b o e hx => ?_, I.base.tups, I.base.frzs, I.base.tbls⟩, ⟨_, hn', fun j y v' e1 e2 e3 => ?_⟩, fun y c e => ?_, I.free, I.freeC, fun p hp => ?_, tracked, by simpa using I.len⟩ hn' rfl
  · exact (hs.2 b (Nat.ne_of_lt (Nat.lt_of_lt_of_le (Heap.lt_size e) I.ok.above))).trans (I.base.keep b o e n hb hx)
  · obtain ⟨sl, e1⟩ := I.base.slot b o e n hb hx
    exact ⟨sl, (hs.2 b (Nat.ne_of_lt (Nat.lt_of_lt_of_le (Heap.lt_size e) I.ok.above))).trans e1⟩
  · obtain ⟨o', e1⟩ := I.base.there b o e hx
    exact ⟨o', (hs.2 b (Nat.ne_of_lt (Nat.lt_of_lt_of_le (Heap.lt_size e) I.ok.above))).trans e1⟩
  · by_cases hj : j = i
    · subst hj
      rw [hi] at e1; cases e1
      rw [List.getElem?_set_self hiσ] at e2
      cases e2
      exact ⟨u, r, .inl ⟨hk, by simp⟩⟩
    · rw [List.getElem?_set_ne (Ne.symm hj)] at e2
      obtain ⟨u', r', q⟩ := hl j y v' e1 e2 e3
      refine ⟨u', r', ?_⟩
      rcases q with ⟨k, e⟩ | ⟨k, c, e, z⟩
      · refine .inl ⟨k, ?_⟩
        have : y ≠ x := fun e => hj (nodup_ix hN e1 (e ▸ hi))
        simp [this, e]
      · exact .inr ⟨k, c, e, z.sameBut hs (cne y c e)⟩
  · obtain ⟨w', z⟩ := I.cell y c e
    exact ⟨w', z.sameBut hs (cne y c e)⟩
  · obtain ⟨e, n, ne, nf, d⟩ := I.pin p hp
    exact ⟨(hs.2 p.1 ne).trans e, n, ne, nf, d⟩
end

def PS1 (X : Cx) (st : Stmt) (t : TS) : Prop :=
  ∀ (pins : List (Addr × Obj)) (s : Shared) (σ : St) (H : Hp) (D : Ends), Inv X pins σ H s → 1 ≤ s.toks → t D σ H → wpAny (model X.prog X.w) X.A (exec st X.env) (SP X pins D) X.xe s
def PSs1 (X : Cx) (st : List Stmt) (t : TS) : Prop :=
  ∀ (pins : List (Addr × Obj)) (s : Shared) (σ : St) (H : Hp) (D : Ends), Inv X pins σ H s → 1 ≤ s.toks → t D σ H → wpAny (model X.prog X.w) X.A (execs st X.env) (SP X pins D) X.xe s
section
variable {X : Cx} {st : Stmt} {rest : List Stmt} {t u : TS} {pos : Pos}
theorem PS.one1 (h : PS X st t) : PS1 X st t := fun pins s σ H D I _ q => h pins s σ H D I q
theorem pss_cons1 (h1 : PS1 X st t) (h2 : PSs1 X rest u) : PSs1 X (st :: rest) (tSeq t u) := by
  intro pins s σ H D I tk h
  refine wpAny_execs_cons (wpAny_mono (wpAny_toks_of tk (h1 pins s σ H { D with nx := u D } I tk h)) (fun f s1 ⟨tk1, q⟩ => ?_) fun _ _ e => e.2)
  cases f with
  | next =>
    obtain ⟨σ', H', I', q⟩ := q
    exact h2 pins s1 σ' H' D I' tk1 q
  | ret v => exact q
  | brk => exact q
  | cont => exact q
theorem pss_one1 (h1 : PS1 X st t) : PSs1 X [st] t := by
  intro pins s σ H D I tk h
  refine wpAny_execs_cons (thn (h1 pins s σ H D I tk h) fun f s1 q => ?_)
  cases f with
  | next => exact wpAny_execs_nil q
  | ret v => exact q
  | brk => exact q
  | cont => exact q
/-- the first text of a def -/
theorem pss_seed {i : Nat} {x z : Str} {j : Nat} {p p' : Pos} (hN : X.N.Nodup) (hi : X.N[i]? = some x) (hx : X.env.scope.names.lookup x = some .local) (h2 : PSs1 X rest u) : PSs X (.Assign [.Name x p'] (.Constant (.str z) j p) pos :: rest) (tSeq (tAsg (tC (.str z)) (gName i)) u) := by
  intro pins s σ H D I h
  refine wpAny_execs_cons (wpAny_Assign_Name (Calls.Constant_str ?_) rfl)
  refine wpAny_with_toks (n := 1) (s := { s with toks := s.toks + 1 }) (Nat.le_add_left 1 _) (store_ok (I.tok (s.toks + 1)) hN hi (.inl hx) (v := .str z) ⟨_, rfl⟩ (fun s2 I2 => ?_) (.inr hx))
  intro tk
  exact h2 pins s2 _ H D I2 tk h
theorem ps_for1 {tg iter : Expr} {body : List Stmt} {wi : TI} {g : TG} {tb : TS} (hp : PassesOwn (model X.prog X.w) X.A X.env X.xe) (hc : X.calm = true) (hi : PI X tg iter wi) (hg : PG X tg g) (hb : PSs1 X body tb)
    (hs : ∀ x, foldedSetIterable iter X.env x = pure x := by intro _; rfl) : PS1 X (.For tg iter body [] pos) (tFor wi g tb) := by
  intro pins s σ H D I tk h
  refine wpAny_For (wpAny_mono (wpAny_toks_of tk (hi pins s σ H _ I h)) (fun v s1 ⟨tk1, h1⟩ => wpAny_mono (wpAny_toks_of tk1 h1) (fun itv s2 ⟨tk2, h2⟩ => ?_) fun _ _ e => e.2) fun _ _ e => e.2) hs
  obtain ⟨it, fp, tn, J, H2, e, I2, T, st2, f2, W, ⟨m0, w0⟩, turn⟩ := h2
  subst e
  have stat : ∀ {H' : Hp}, (∀ b ∈ fp, H' b = none) → ∀ b ∈ fp, FpOk X pins H' b := fun hn b hb => ⟨hn b hb, (f2 b hb).2⟩
  refine codeAny_forLoop_any (fun n s' => 1 ≤ s'.toks ∧ ∃ i σ' H', Inv X pins σ' H' s' ∧ tn i s'.heap ∧ (∀ b ∈ fp, H' b = none) ∧ W i n σ' H') ?_ m0 ⟨tk2, 0, σ, H2, I2, st2, fun b hb => (f2 b hb).1, w0⟩
  rintro n s3 ⟨tk3, i, σ3, H3, I3, st3, fr3, w3⟩
  rcases turn i n σ3 H3 w3 with ⟨stop, qn⟩ | ⟨go, N, hN, step⟩
  · refine wpAny_passesOwn hp (thn (T.done X rfl rfl rfl hc i pins s3 σ3 H3 X.xe I3 (stat fr3) st3 stop) fun r s4 ⟨hr, I4⟩ => ?_)
    subst hr
    exact wpAny_execs_nil ⟨σ3, H3, I4, qn⟩
  · refine wpAny_passesOwn hp (wpAny_mono (wpAny_toks_of tk3 (T.item X rfl rfl rfl hc i pins s3 σ3 H3 X.xe I3 (stat fr3) st3 go)) (fun r s4 ⟨tk4, u, hr, h4⟩ => ?_) fun _ _ e => e.2)
    subst hr
    refine wpAny_passesOwn hp (wpAny_mono (wpAny_toks_of tk4 h4) (fun _ s5 ⟨tk5, x, H5, I5, r5, y5, st5, fr5⟩ => ?_) fun _ _ e => e.2)
    have I5' := I5.pinned (stat fr5) (T.obj _ _ st5)
    refine wpAny_passesOwn hp (wpAny_mono (wpAny_toks_of tk5 (hg _ s5 σ3 H5 x u _ I5' r5 (step x H5 y5))) (fun _ s6 ⟨tk6, σ6, H6, I6, q6⟩ => ?_) fun _ _ e => e.2)
    refine wpAny_passesOwn hp (wpAny_mono (wpAny_toks_of tk6 (hb _ s6 σ6 H6 _ I6 tk6 q6)) (fun f s7 ⟨tk7, q7⟩ => ?_) fun _ _ e => e.2)
    have again : ∀ {σ7 : St} {H7 : Hp}, Inv X (pins ++ pinsAt fp s5.heap) σ7 H7 s7 → N σ7 H7 → ∃ m, m < n ∧ 1 ≤ s7.toks ∧ ∃ i σ' H', Inv X pins σ' H' s7 ∧ tn i s7.heap ∧ (∀ b ∈ fp, H' b = none) ∧ W i m σ' H' := fun {σ7 H7} I7 n7 => by
      obtain ⟨m', hm, w7⟩ := hN σ7 H7 n7
      refine ⟨m', hm, tk7, i + 1, σ7, H7, I7.unpinned, T.keep _ _ _ st5 fun b hb o e => (I7.pin (b, o) (List.mem_append_right _ (List.mem_append_right _ (mem_pinsAt hb e)))).1, fun b hb => ?_, w7⟩
      obtain ⟨o, e, d⟩ := T.obj _ _ st5 b hb
      exact (I7.pin (b, o) (List.mem_append_right _ (List.mem_append_right _ (mem_pinsAt hb e)))).2.1
    cases f with
    | next => obtain ⟨σ7, H7, I7, n7⟩ := q7; exact again I7 n7
    | cont => obtain ⟨σ7, H7, I7, n7⟩ := q7; exact again I7 n7
    | brk => obtain ⟨σ7, H7, I7, q7⟩ := q7; exact ⟨σ7, H7, I7.unpinned, q7⟩
    | ret v => obtain ⟨x7, σ7, H7, I7, r7, q7⟩ := q7; exact ⟨x7, σ7, H7, I7.unpinned, r7, q7⟩

/-- sign = pool[e]; found = found + sign; pool = pool.replace(sign, ''): slots a (pool), b (sign), c (found) -/
def tSigns (a b c : Nat) (z0 : Str) (ti : TE) : TS := fun D σ H => ∃ pool found, σ[a]? = some (some (.str pool)) ∧ σ[c]? = some (some (.str found)) ∧ ti σ H fun y H1 => ∃ i ch, y = .int i ∧ pool.length ≤ 100 ∧ found.length ≤ 100 ∧ atI pool.cps.toList i = some ch ∧
  D.nx (((σ.set b (some (.str ⟨#[ch]⟩))).set c (some (.str (found ++ ⟨#[ch]⟩)))).set a (some (.str (Txt.replace pool ⟨#[ch]⟩ z0)))) H1
theorem pss_signs {a b c : Nat} {pl sg fd z0 : Str} {idx : Expr} {ti : TE} {j : Nat} {p1 p2 p3 p4 p5 p6 p7 p8 p9 p10 p11 p12 p13 p14 p15 p16 : Pos} (hN : X.N.Nodup) (ha : X.N[a]? = some pl) (hb : X.N[b]? = some sg) (hc : X.N[c]? = some fd)
    (la : X.env.scope.names.lookup pl = some .local) (lb : X.env.scope.names.lookup sg = some .local) (lc : X.env.scope.names.lookup fd = some .local) (hidx : PE X idx ti) (hz : z0.length = 0) (hpx : PlainIx idx)
    (nab : a ≠ b := by decide) (nac : a ≠ c := by decide) (nbc : b ≠ c := by decide) (nps : ¬ pl = sg := by decide) (nsf : ¬ sg = fd := by decide) (npf : ¬ pl = fd := by decide)
    (dpl : (pl == ("__debug__" : Str)) = false := by decide) (dcp : (pl == ("__classdict__" : Str)) = false := by decide) (dsg : (sg == ("__debug__" : Str)) = false := by decide) (dfd : (fd == ("__debug__" : Str)) = false := by decide)
    (hs1 : swapsWith (.Subscript (.Name pl p2) idx p3) (some (.Name sg p1)) p4.line X.env = pure false := by rfl)
    (hbase : attributeBase (.Name pl p11) "replace" X.env (eval (.Name pl p11) X.env) = eval (.Name pl p11) X.env := by rfl)
    (hfew : ((backTo p15 (starEach [.Name sg p13, .Constant (.str z0) j p14] X.env)).all (fun x => !x.1) && (backToKw p15 (keywordEach [] X.env)).all (fun x => x.1.isSome)
      && decide (([.Name sg p13, .Constant (.str z0) j p14] : List Expr).length + ([] : List Keyword).length + (if ([] : List Keyword).isEmpty then 0 else 1) < 30)) = true := by rfl)
    (hline : (p12.endLine == p15.line) = true := by rfl) :
    PSs1 X [.Assign [.Name sg p1] (.Subscript (.Name pl p2) idx p3) p4, .Assign [.Name fd p5] (.BinOp (.Name fd p6) .Add (.Name sg p7) p8) p9,
      .Assign [.Name pl p10] (.Call (.Attribute (.Name pl p11) "replace" p12) [.Name sg p13, .Constant (.str z0) j p14] [] p15) p16] (tSigns a b c z0 ti) := by
  intro pins s σ H D I tk h
  obtain ⟨pool, found, e1, e2, h⟩ := h
  refine wpAny_execs_cons (wpAny_Assign_Name (Subscript_ ?_) hs1)
  refine wpAny_mono (wpAny_toks_of tk (pe_var ha (.inl la) dpl dcp pins s σ H (fun x H1 => x = .str pool ∧ H1 = H) I ⟨_, e1, rfl, rfl⟩)) (fun v s1 ⟨tk1, x, H1, I1, r1, ex, eH⟩ => ?_) (fun _ _ e => e.2)
  subst ex eH
  refine wpAny_mono (wpAny_toks_of tk1 (hidx pins s1 σ _ _ I1 h)) (fun u s2 ⟨tk2, y, H2, I2, r2, i, ch, ey, hp, hf, hat, q⟩ => ?_) (fun _ _ e => e.2)
  subst ey
  obtain ⟨t, rfl⟩ := r1
  obtain ⟨t', rfl⟩ := r2
  obtain ⟨jj, h1, h2, h3, h4, h5⟩ := atI_get hat
  have hl : pool.cps.toList.length = pool.length := by simp [Str.length]
  rw [hl] at h1 h4 h5
  have hn := line63
  refine tail_any (typeIs_str s2 pool t) slot_str_getitem.lookup (getItem_str (c := ch) (by
    have q1 : decide (i < -(2 ^ 63 : Int)) = false := decide_eq_false (by omega)
    have q2 : decide (i ≥ 2 ^ 63) = false := decide_eq_false (by omega)
    rw [q1, q2, Bool.or_false]) (by rw [h1]; simpa using h2) ?_) (hpx _ _)
  have I3 := I2.tok (s2.toks + 1)
  obtain ⟨m3, n3, _⟩ := id I3.loc
  refine storeM I3 n3 hN hb lb (v := .str ⟨#[ch]⟩) ⟨s2.toks, rfl⟩ fun s4 I4 n4 t4 => ?_
  have lσ : σ.length = X.N.length := I.len
  have la' : a < σ.length := by rw [lσ]; exact (List.getElem?_eq_some_iff.mp ha).1
  have lb' : b < σ.length := by rw [lσ]; exact (List.getElem?_eq_some_iff.mp hb).1
  have lc' : c < σ.length := by rw [lσ]; exact (List.getElem?_eq_some_iff.mp hc).1
  obtain ⟨uf, mf, tf, rfl⟩ := loadM (v := .str found) I4 n4 hc (by rw [List.getElem?_set_ne nbc]; exact e2) lc
  refine wpAny_execs_cons (wpAny_Assign_Name (wpAny_BinOp ?_) rfl)
  refine wpAny_Name (wpAny_loadName_local I4.ok.kind lc n4 mf ?_) dfd
  refine wpAny_Name (wpAny_loadName_local I4.ok.kind lb n4 (v := .str ⟨#[ch]⟩ s2.toks) (by simp) ?_) dsg
  refine wpAny_with_toks (n := s4.toks) (Nat.le_refl _) (PyProof.Rows.add_str (fun t' k => ?_) (by rw [sizeLine_eq]; show found.length + 1 ≤ _; omega))
  intro hk
  have n4' : ({ s4 with toks := k } : Shared).heap.Ns X.env.locals _ := n4
  refine storeM (I4.tok k) n4' hN hc lc (v := .str (found ++ ⟨#[ch]⟩)) ⟨t', rfl⟩ fun s5 I5 n5 t5 => ?_
  have hk' : s4.toks ≤ k := hk
  have t5' : s5.toks = k + 1 := t5
  have t4' : s4.toks = s2.toks + 1 + 1 := t4
  obtain ⟨up, mp, tp, rfl⟩ := loadM (v := .str pool) I5 n5 ha (by rw [List.getElem?_set_ne nac.symm, List.getElem?_set_ne nab.symm]; exact e1) la
  refine wpAny_execs_cons (wpAny_Assign_Name (wpAny_Call_method_late hbase hfew hline rfl ?_) rfl)
  refine wpAny_Name (wpAny_loadName_local I5.ok.kind la n5 mp ?_) dpl
  refine ⟨"str", "str.replace", PySem.F.plainAttrs_str, PySem.F.slot_str_replace, PySem.F.type_str_replace, typeIs_str _ _ _, (fun _ e => nomatch e), ?_⟩
  refine Calls.callWith_builtin (by rfl) (Calls.evalArgs_plain ?_)
  show wpAny _ _ (spliced ((false, eval (.Name sg p13) X.env) :: (false, eval (.Constant (.str z0) j p14) X.env) :: [])) _ _ _
  refine Calls.spliced_cons (wpAny_Name (wpAny_loadName_local I5.ok.kind lb n5 (v := .str ⟨#[ch]⟩ s2.toks) (by simp [nsf]) ?_) dsg)
  refine Calls.spliced_cons (Calls.Constant_str ?_)
  refine Calls.spliced_nil ?_
  have hyz : ((⟨#[ch]⟩ : Str) == z0) = false := by
    refine beq_eq_false_iff_ne.mpr fun e => ?_
    have := congrArg Str.length e
    rw [hz] at this
    exact absurd this (by show ¬ ((1 : Nat) = 0); decide)
  have a1 : s2.toks ≠ 0 := by omega
  have a2 : s5.toks ≠ 0 := by omega
  have a3 : s2.toks ≠ s5.toks := by omega
  refine SC.replace a1 a2 a3 hyz (by rw [hz]; omega) fun t'' k'' => ?_
  have n5' : ({ s5 with toks := k'' } : Shared).heap.Ns X.env.locals _ := n5
  refine storeM (I5.tok k'') n5' hN ha la (v := .str (Txt.replace pool ⟨#[ch]⟩ z0)) ⟨t'', rfl⟩ fun s6 I6 n6 t6 => ?_
  exact wpAny_execs_nil ⟨_, H2, I6, q⟩
end
end L2

set_option Elab.async false
set_option linter.all false
/-! the mathematics: texts as lists of signs -/
namespace Bs
open PySem PySem.Spec PyProof.Rows
abbrev ch (x : Str) : List Nat := x.cps.toList
theorem len_ch (x : Str) : (ch x).length = x.length := by simp [ch, Str.length]
theorem ext_ch {x y : Str} (h : ch x = ch y) : x = y := by
  obtain ⟨a⟩ := x
  obtain ⟨b⟩ := y
  have : a = b := Array.toList_inj.mp h
  rw [this]
theorem ch_append (a b : Str) : ch (a ++ b) = ch a ++ ch b := by
  show (a ++ b).cps.toList = _
  rw [Str.cps_append, Array.toList_append]
theorem ch_one (c : Nat) : ch ⟨#[c]⟩ = [c] := rfl
theorem ch_nil {z : Str} (h : z.length = 0) : ch z = [] := by
  have := len_ch z
  rw [h] at this
  exact List.length_eq_zero_iff.mp this
theorem slice_eq (x : Str) (l u : Option Int) : Txt.slice x l u = StrLaws.sliceText x l u := rfl
theorem slice_to (x : Str) (j : Nat) : ch (Txt.slice x none (some (j : Int))) = (ch x).take j := by
  by_cases h : j ≤ x.length
  · rw [slice_eq, StrLaws.sliceText_to ⟨by omega, by simp [Str.length] at h ⊢; omega⟩]
    simp
  · have hn : Builtin.Str.strSliceIndices none (some (j : Int)) 1 x.length = Builtin.Str.strSliceIndices none (some ((x.length : Nat) : Int)) 1 x.length := by
      have e1 : ¬ ((j : Int) < 0) := by omega
      have e2 : ¬ (((x.length : Nat) : Int) < 0) := by omega
      have e3 : max (0 : Int) (min (j : Int) (x.length : Int)) = max 0 (min ((x.length : Nat) : Int) (x.length : Int)) := by omega
      simp [Builtin.Str.strSliceIndices, e1, e2, e3]
    have e : Txt.slice x none (some (j : Int)) = Txt.slice x none (some ((x.length : Nat) : Int)) := by
      unfold Txt.slice
      rw [hn]
    rw [e, slice_eq, StrLaws.sliceText_to ⟨by omega, by simp [Str.length]⟩]
    have e4 : (ch x).length ≤ j := by rw [len_ch]; omega
    rw [List.take_of_length_le e4]
    have e5 : x.cps.toList.take x.cps.size = x.cps.toList := List.take_of_length_le (by simp)
    simp [Str.length, e5]
theorem slice_from (x : Str) (i : Nat) : ch (Txt.slice x (some (i : Int)) none) = (ch x).drop i := by
  by_cases h : i ≤ x.length
  · rw [slice_eq, StrLaws.sliceText_from ⟨by omega, by simp [Str.length] at h ⊢; omega⟩]
    show ((x.cps.toList.drop (i : Int).toNat).take ((x.cps.toList.length : Int) - (i : Int)).toNat).toArray.toList = (ch x).drop i
    rw [List.toList_toArray, Int.toNat_natCast, List.take_of_length_le]
    rw [List.length_drop]
    omega
  · have hn : Builtin.Str.strSliceIndices (some (i : Int)) none 1 x.length = Builtin.Str.strSliceIndices (some ((x.length : Nat) : Int)) none 1 x.length := by
      have e1 : ¬ ((i : Int) < 0) := by omega
      have e2 : ¬ (((x.length : Nat) : Int) < 0) := by omega
      have e3 : max (0 : Int) (min (i : Int) (x.length : Int)) = max 0 (min ((x.length : Nat) : Int) (x.length : Int)) := by omega
      simp [Builtin.Str.strSliceIndices, e1, e2, e3]
    have e : Txt.slice x (some (i : Int)) none = Txt.slice x (some ((x.length : Nat) : Int)) none := by
      unfold Txt.slice
      rw [hn]
    rw [e, slice_eq, StrLaws.sliceText_from ⟨by omega, by simp [Str.length]⟩]
    have e4 : (ch x).length ≤ i := by rw [len_ch]; omega
    rw [List.drop_of_length_le e4]
    simp [Str.length]
/-! ### replace by nothing, join by nothing -/
def dropC (c : Nat) (l : List Nat) : List Nat := l.filter fun k => decide (k ≠ c)
theorem dropC_free (c : Nat) (l : List Nat) (h : c ∉ l) : dropC c l = l := by
  unfold dropC
  refine List.filter_eq_self.mpr fun a ha => decide_eq_true fun e => h (e ▸ ha)
theorem dropC_join (c : Nat) {z : Str} (hz : z.length = 0) : ∀ parts : List Str, (∀ p ∈ parts, c ∉ ch p) → dropC c (ch (Str.join ⟨#[c]⟩ parts)) = ch (Str.join z parts)
  | [], _ => rfl
  | [p], h => dropC_free c _ (h p (List.mem_singleton.mpr rfl))
  | p :: q :: r, h => by
    have ih := dropC_join c hz (q :: r) fun a ha => h a (List.mem_cons_of_mem _ ha)
    show dropC c (ch (p ++ ⟨#[c]⟩ ++ Str.join ⟨#[c]⟩ (q :: r))) = ch (p ++ z ++ Str.join z (q :: r))
    rw [ch_append, ch_append, ch_append, ch_append, ← ih, ch_nil hz, List.append_nil]
    unfold dropC
    rw [List.filter_append, List.filter_append]
    have e1 := dropC_free c _ (h p (List.mem_cons_self ..))
    unfold dropC at e1
    rw [e1]
    simp
theorem replace_drop {z : Str} (hz : z.length = 0) (x : Str) (c : Nat) : ch (Txt.replace x ⟨#[c]⟩ z) = dropC c (ch x) := by
  rw [StrLaws.replace_one, ← dropC_join c hz _ (StrLaws.split_free x c), StrLaws.join_split]
theorem join_flat {z : Str} (hz : z.length = 0) : ∀ ts : List Str, ch (Txt.join z ts) = (ts.map ch).flatten := by
  intro ts
  unfold Txt.join Builtin.Str.glued
  have zc : z.cps = #[] := by
    have := ch_nil hz
    exact Array.toList_inj.mp this
  have key : ∀ (l : List Str) (acc : Array Nat), (l.foldl (fun acc p => acc ++ z.cps ++ p.cps) acc).toList = acc.toList ++ (l.map ch).flatten := by
    intro l
    induction l with
    | nil => intro acc; simp
    | cons p l ih =>
      intro acc
      rw [List.foldl_cons, ih, zc]
      simp
  cases ts with
  | nil => rfl
  | cons p l =>
    show ((List.drop 1 (p :: l)).foldl (fun acc q => acc ++ z.cps ++ q.cps) p.cps).toList = _
    rw [List.drop_one, List.tail_cons, key]
    rfl
/-! ### the drawn signs and words -/
def poolS : Str := "abcdefghijklmnopqrstuvwxyz0123456789"
structure Signs (x : Str) : Prop where
  lo : 2 ≤ x.length
  hi : x.length ≤ 4
  nd : (ch x).Nodup
  sub : ∀ c ∈ ch x, c ∈ ch poolS
/-- after i turns -/
structure Drawn (i : Nat) (pool found : Str) : Prop where
  pl : pool.length + i = 36
  fl : found.length = i
  pn : (ch pool).Nodup
  fn : (ch found).Nodup
  ps : ∀ c ∈ ch pool, c ∈ ch poolS
  fs : ∀ c ∈ ch found, c ∈ ch poolS
  ap : ∀ c ∈ ch found, c ∉ ch pool
theorem pool_nodup : (ch poolS).Nodup := by decide +kernel
theorem pool_len : poolS.length = 36 := by decide +kernel
theorem Drawn.zero {e : Str} (he : e.length = 0) : Drawn 0 poolS e :=
  ⟨pool_len, he, pool_nodup, (by rw [ch_nil he]; exact List.nodup_nil), (fun _ h => h), (fun c h => by rw [ch_nil he] at h; exact absurd h (by simp)), (fun c h => by rw [ch_nil he] at h; exact absurd h (by simp))⟩
theorem filter_ne_length {c : Nat} : ∀ {l : List Nat}, l.Nodup → c ∈ l → (dropC c l).length + 1 = l.length := by
  intro l
  induction l with
  | nil => intro _ h; cases h
  | cons a r ih =>
    intro nd h
    obtain ⟨n1, n2⟩ := List.nodup_cons.mp nd
    unfold dropC at ih ⊢
    by_cases e : a = c
    · subst e
      have : r.filter (fun k => decide (k ≠ a)) = r := dropC_free a r n1
      rw [List.filter_cons, if_neg (by simp), this]
      rfl
    · have hc : c ∈ r := (List.mem_cons.mp h).resolve_left (fun z => e z.symm)
      rw [List.filter_cons, if_pos (by simp [e]), List.length_cons, List.length_cons, ih n2 hc]
theorem Drawn.step {i : Nat} {pool found z : Str} (d : Drawn i pool found) (hz : z.length = 0) {c : Nat} (hc : c ∈ ch pool) : Drawn (i + 1) (Txt.replace pool ⟨#[c]⟩ z) (found ++ ⟨#[c]⟩) := by
  have e := replace_drop hz pool c
  have l1 := filter_ne_length d.pn hc
  have l2 : (Txt.replace pool ⟨#[c]⟩ z).length = (dropC c (ch pool)).length := by rw [← len_ch, e]
  have l3 := len_ch pool
  refine ⟨by have := d.pl; omega, ?_, ?_, ?_, fun k hk => ?_, fun k hk => ?_, fun k hk => ?_⟩
  · rw [← len_ch, ch_append, List.length_append, len_ch, d.fl]; rfl
  · rw [e]; exact d.pn.filter _
  · rw [ch_append]
    refine List.nodup_append.mpr ⟨d.fn, by simp [ch], fun a ha b hb => ?_⟩
    have : b = c := by simpa [ch] using hb
    subst this
    rintro rfl
    exact d.ap a ha hc
  · rw [e] at hk
    exact d.ps k (List.mem_filter.mp hk).1
  · rw [ch_append] at hk
    rcases List.mem_append.mp hk with h | h
    · exact d.fs k h
    · have : k = c := by simpa [ch] using h
      subst this
      exact d.ps k hc
  · rw [e]
    intro hm
    obtain ⟨h1, h2⟩ := List.mem_filter.mp hm
    rw [ch_append] at hk
    rcases List.mem_append.mp hk with h | h
    · exact d.ap k h h1
    · have : k = c := by simpa [ch] using h
      subst this
      simp at h2
theorem Drawn.signs {i : Nat} {pool found : Str} (d : Drawn i pool found) (h1 : 2 ≤ i) (h2 : i ≤ 4) : Signs found := ⟨by rw [d.fl]; exact h1, by rw [d.fl]; exact h2, d.fn, d.fs⟩
/-- a barred word over the signs -/
structure Word (sg w : Str) : Prop where
  lo : 1 ≤ w.length
  hi : w.length ≤ 5
  sub : ∀ c ∈ ch w, c ∈ ch sg
theorem word_cut {sg a b : Str} (ha : Word sg a) (hb : Word sg b) : Word sg (Txt.slice (Txt.slice a (some 1) none ++ b) none (some 5)) := by
  have e : ch (Txt.slice (Txt.slice a (some 1) none ++ b) none (some 5)) = ((ch a).drop 1 ++ ch b).take 5 := by
    have h1 := slice_to (Txt.slice a (some 1) none ++ b) 5
    have h2 := slice_from a 1
    have h1' : ch (Txt.slice (Txt.slice a (some 1) none ++ b) none (some 5)) = (ch (Txt.slice a (some 1) none ++ b)).take 5 := h1
    have h2' : ch (Txt.slice a (some 1) none) = (ch a).drop 1 := h2
    rw [h1', ch_append, h2']
  have l : (Txt.slice (Txt.slice a (some 1) none ++ b) none (some 5)).length = (((ch a).drop 1 ++ ch b).take 5).length := by rw [← len_ch, e]
  have lb := len_ch b
  have := hb.lo
  refine ⟨?_, ?_, fun c hc => ?_⟩
  · rw [l, List.length_take, List.length_append]; omega
  · rw [l, List.length_take]; omega
  · rw [e] at hc
    rcases List.mem_append.mp (List.mem_of_mem_take hc) with h | h
    · exact ha.sub c (List.mem_of_mem_drop h)
    · exact hb.sub c h
theorem word_join {sg z : Str} (hz : z.length = 0) {ts : List Str} (h1 : 1 ≤ ts.length) (h2 : ts.length ≤ 5) (h : ∀ t ∈ ts, ∃ c, t = ⟨#[c]⟩ ∧ c ∈ ch sg) : Word sg (Txt.join z ts) := by
  have e := join_flat hz ts
  have hl : ∀ (l : List Str), (∀ t ∈ l, ∃ c, t = ⟨#[c]⟩ ∧ c ∈ ch sg) → ((l.map ch).flatten).length = l.length ∧ ∀ c ∈ (l.map ch).flatten, c ∈ ch sg := by
    intro l
    induction l with
    | nil => intro _; exact ⟨rfl, fun c h => by cases h⟩
    | cons t l ih =>
      intro ht
      obtain ⟨c, rfl, hc⟩ := ht t (List.mem_cons_self ..)
      obtain ⟨i1, i2⟩ := ih fun t h => ht t (List.mem_cons_of_mem _ h)
      refine ⟨by rw [List.map_cons, List.flatten_cons, List.length_append, i1, List.length_cons]; exact Nat.add_comm 1 _, fun k hk => ?_⟩
      rw [List.map_cons, List.flatten_cons] at hk
      rcases List.mem_append.mp hk with h | h
      · have : k = c := by simpa [ch] using h
        subst this
        exact hc
      · exact i2 k h
  obtain ⟨l1, l2⟩ := hl ts h
  have l3 : (Txt.join z ts).length = ts.length := by rw [← len_ch, e, l1]
  exact ⟨by omega, by omega, fun c hc => l2 c (e ▸ hc)⟩
/-! ### in -/
def inS (y x : Str) : Bool := !(Builtin.Str.occurrences x y 0 x.length 1).isEmpty
theorem inS_one (x : Str) (c : Nat) : inS ⟨#[c]⟩ x = decide (c ∈ ch x) := StrLaws.found_one x c
def bears (ws : List Str) (r : Str) : Bool := ws.any fun w => inS w r
/-! ### places -/
def takeS (w : Str) (n : Nat) : Str := Txt.slice w none (some (n : Int))
theorem takeS_len (w : Str) (n : Nat) : (takeS w n).length ≤ w.length := Txt.slice_le _ _ _
def addK (ks : List Str) (b : Str) : List Str := if b ∈ ks then ks else ks ++ [b]
def addP (ws : List Str) (ks : List Str) (b : Str) : List Str := if bears ws b = true then ks else addK ks b
theorem addP_len (ws ks : List Str) (b : Str) : (addP ws ks b).length ≤ ks.length + 1 := by
  unfold addP addK
  split
  · omega
  · split
    · omega
    · simp
def upTo (ws : List Str) (w : Str) (ks : List Str) (n : Nat) : List Str := ((List.range n).map fun i => takeS w (1 + i)).foldl (addP ws) ks
theorem upTo_succ (ws : List Str) (w : Str) (ks : List Str) (n : Nat) : upTo ws w ks (n + 1) = addP ws (upTo ws w ks n) (takeS w (1 + n)) := by
  unfold upTo
  rw [List.range_succ, List.map_append, List.foldl_append]
  rfl
theorem upTo_len (ws : List Str) (w : Str) (ks : List Str) : ∀ n, (upTo ws w ks n).length ≤ ks.length + n
  | 0 => Nat.le_refl _
  | n + 1 => by
    rw [upTo_succ]
    have := upTo_len ws w ks n
    have := addP_len ws (upTo ws w ks n) (takeS w (1 + n))
    omega
def addW (ws : List Str) (ks : List Str) (w : Str) : List Str := upTo ws w ks (w.length - 1)
def keysS (ws : List Str) (e : Str) (us : List Str) : List Str := us.foldl (addW ws) [e]
theorem keysS_snoc (ws : List Str) (e : Str) (us : List Str) (w : Str) : keysS ws e (us ++ [w]) = addW ws (keysS ws e us) w := by
  unfold keysS
  rw [List.foldl_append]
  rfl
theorem keysS_len {ws : List Str} {e : Str} {us : List Str} (h : ∀ w ∈ us, w.length ≤ 5) : (keysS ws e us).length ≤ 1 + 4 * us.length := by
  have key : ∀ (us ks : List Str), (∀ w ∈ us, w.length ≤ 5) → (us.foldl (addW ws) ks).length ≤ ks.length + 4 * us.length := by
    intro us
    induction us with
    | nil => intro ks _; exact Nat.le_refl _
    | cons w us ih =>
      intro ks h
      have h1 := ih (addW ws ks w) fun v hv => h v (List.mem_cons_of_mem _ hv)
      have h2 := h w (List.mem_cons_self ..)
      have h3 := upTo_len ws w ks (w.length - 1)
      rw [List.foldl_cons, List.length_cons]
      unfold addW at h1
      unfold addW
      omega
  exact key us [e] h
theorem addK_nodup {ks : List Str} {b : Str} (h : ks.Nodup) : (addK ks b).Nodup := by
  unfold addK
  split
  · exact h
  · rename_i hb
    refine List.nodup_append.mpr ⟨h, by simp, fun a ha c hc => ?_⟩
    have : c = b := by simpa using hc
    subst this
    rintro rfl
    exact hb ha
theorem addP_nodup {ws ks : List Str} {b : Str} (h : ks.Nodup) : (addP ws ks b).Nodup := by
  unfold addP
  split
  · exact h
  · exact addK_nodup h
theorem upTo_nodup {ws : List Str} {w : Str} {ks : List Str} (h : ks.Nodup) : ∀ n, (upTo ws w ks n).Nodup
  | 0 => h
  | n + 1 => by rw [upTo_succ]; exact addP_nodup (upTo_nodup h n)
theorem keysS_nodup {ws : List Str} {e : Str} (us : List Str) : (keysS ws e us).Nodup := by
  have key : ∀ (us ks : List Str), ks.Nodup → (us.foldl (addW ws) ks).Nodup := by
    intro us
    induction us with
    | nil => intro ks h; exact h
    | cons w us ih => intro ks h; exact ih _ (upTo_nodup h _)
  exact key us [e] (by simp)
theorem mem_addP {ws ks : List Str} {b k : Str} (h : k ∈ ks) : k ∈ addP ws ks b := by
  unfold addP addK
  split
  · exact h
  · split
    · exact h
    · exact List.mem_append_left _ h
theorem mem_upTo {ws : List Str} {w : Str} {ks : List Str} {k : Str} (h : k ∈ ks) : ∀ n, k ∈ upTo ws w ks n
  | 0 => h
  | n + 1 => by rw [upTo_succ]; exact mem_addP (mem_upTo h n)
theorem keysS_empty {ws : List Str} {e : Str} (us : List Str) : e ∈ keysS ws e us := by
  have key : ∀ (us ks : List Str), e ∈ ks → e ∈ us.foldl (addW ws) ks := by
    intro us
    induction us with
    | nil => intro ks h; exact h
    | cons w us ih => intro ks h; exact ih _ (mem_upTo h _)
  exact key us [e] (by simp)
/-! ### sorted lists are one -/
def leS (a b : Str) : Prop := ¬ (b.cps.toList < a.cps.toList)
end Bs

set_option Elab.async false
set_option linter.all false
set_option maxRecDepth 100000
namespace L2
open PySem PySem.Spec PyProof.Rows
def blockCheck (sc scope : Scope) (N : List Str) (x : Str) (ys : List Str) (ix : List Nat) : Bool :=
  (match scope.kind with | .function => true | _ => false) &&
  (scope.names.all fun y => !decide (y.2 = .cell)) && (scope.names.all fun y => !decide (y.2 = .local) || decide (scope.names.lookup y.1 = some .local)) &&
  (scope.names.all fun y => !decide (y.2 = .free) || decide (sc.names.lookup y.1 = some .cell) || decide (sc.names.lookup y.1 = some .free)) &&
  decide (scope.names.lookup x = some .local) && decide ((x :: ys).Nodup) && decide (ix.length = ys.length) &&
  ((List.range ys.length).all fun j => match ys[j]?, ix[j]? with
    | some y, some i => decide (N[i]? = some y) && (decide (sc.names.lookup y = some .cell) || decide (sc.names.lookup y = some .free)) && decide (scope.names.lookup y = some .free)
    | _, _ => false)
theorem blockOk_of {X : Cx} {sc scope : Scope} {N : List Str} {x : Str} {ys : List Str} {ix : List Nat} (hsc : X.env.scope = sc) (hN : X.N = N) (h : blockCheck sc scope N x ys ix = true) : BlockOk X scope x ys ix := by
  unfold blockCheck at h
  simp only [Bool.and_eq_true] at h
  obtain ⟨⟨⟨⟨⟨⟨⟨h1, h2⟩, h3⟩, h4⟩, h5⟩, h6⟩, h7⟩, h8⟩ := h
  refine ⟨?_, fun y hy => ?_, fun y hy e => ?_, of_decide_eq_true h5, fun y hy e => ?_, of_decide_eq_true h6, of_decide_eq_true h7, fun j y hj => ?_⟩
  · cases e : scope.kind <;> rw [e] at h1 <;> first | rfl | cases h1
  · have := List.all_eq_true.mp h2 y hy
    simpa using this
  · have := List.all_eq_true.mp h3 y hy
    simpa [e] using this
  · have := List.all_eq_true.mp h4 y hy
    have q : sc.names.lookup y.1 = some .cell ∨ sc.names.lookup y.1 = some .free := by simpa [e] using this
    show X.env.scope.names.lookup y.1 = some .cell ∨ X.env.scope.names.lookup y.1 = some .free
    rw [hsc]
    exact q
  · have hl : j < ys.length := (List.getElem?_eq_some_iff.mp hj).1
    have := List.all_eq_true.mp h8 j (List.mem_range.mpr hl)
    rw [hj] at this
    cases e : ix[j]? with
    | none => rw [e] at this; cases this
    | some i =>
      rw [e] at this
      simp only [Bool.and_eq_true, Bool.or_eq_true, decide_eq_true_eq] at this
      exact ⟨i, rfl, by rw [hN]; exact this.1.1, by rw [hsc]; exact this.1.2, this.2⟩
/-- a comprehension without tests -/
theorem comp_map {J : It} {Ok : Hp → Prop} {xs : List V} {l : Addr} {σf : St} {te : TE} {H : Hp} {Q : Hp → Prop} (g : V → V) (hJ : ItIs J Ok xs) (hl : H l = none) (hz : xs.length ≤ sizeLine) (hOk : ∀ H', Same H H' → Ok H')
    (he : ∀ x H3 Q', x ∈ xs → Same H H3 → (∀ H', Same H3 H' → Q' (g x) H') → te (some x :: σf) H3 Q')
    (hd : ∀ H', Same H H' → H' l = some (.lst (xs.map g)) → Q H') : CompW J l σf tYes te H Q :=
  comp_pure (fun _ => true) g hJ hl hz hOk (fun x H3 Q' _ _ q => q H3 (Same.refl _)) (fun x H3 Q' hx _ s q => he x H3 Q' hx s q) (fun H' s h => hd H' s (by rw [h, List.filter_eq_self.mpr (fun _ _ => rfl)]))
/-- a def of the text, as a name of the module -/
structure FnAt (K : PySem.W.Frag) (mg : Str → Option Value) (nm : Str) (st : Stmt) (ps : List Str) (f : Addr) (fd : FuncData) : Prop where
  F : Fun K nm nm st f fd
  b : Binds K fd ps []
  g : mg nm = some (.ref f)
theorem op_in_seqK {X : Cx} {K : PySem.W.Frag} (hK : X.K = K) : OpR X (compareOp .In) (rIn K false) := by
  subst hK
  exact op_in_seq
theorem call_len_seqK {X : Cx} {K : PySem.W.Frag} (hK : X.K = K) : CallR X (.builtin "len") (fun xs H Q => ∃ p ys, xs = [.ref p] ∧ (SqL K H p ys ∨ SqT K H p ys) ∧ Q (.int ys.length) H) := by
  subst hK
  exact call_len_seq
theorem pe_bm0K {X : Cx} {K : PySem.W.Frag} {o : Expr} {to : TE} {name : Str} {apos cpos : Pos} {T id : String} {r : V → List V → Hp → VK → Prop} (hK : X.K = K) (pa : PlainAttrs T) (slot : Slot T name id) (hty : typeOf (.builtin id) = pure (.type "method_descriptor")) (hm : MtR X id r) (ho : PE X o to)
    (hbase : attributeBase o name X.env (eval o X.env) = eval o X.env := by rfl) (hline : (apos.endLine == cpos.line) = true := by rfl) : PE X (.Call (.Attribute o name apos) [] [] cpos) (tBM0 K T r to) := by
  subst hK
  exact pe_bm0 pa slot hty hm ho hbase hline
theorem iteN {c A B : Prop} [Decidable c] (h : ¬ c) (b : B) : if c then A else B := by
  rw [if_neg h]
  exact b
theorem iteY {c A B : Prop} [Decidable c] (h : c) (a : A) : if c then A else B := by
  rw [if_pos h]
  exact a
theorem small16 {n : Nat} (h : n ≤ 1000000) : n ≤ sizeLine := Nat.le_trans h (by rw [sizeLine_eq]; decide)
/-- x in xs, texts -/
theorem inV_strs (y : Str) (ps : List Str) : inV (.str y) (ps.map V.str) = decide (y ∈ ps) := by
  unfold inV
  rw [List.any_map]
  induction ps with
  | nil => rfl
  | cons p ps ih =>
    rw [List.any_cons, ih]
    show ((p == y) || decide (y ∈ ps)) = decide (y ∈ p :: ps)
    by_cases e : p = y
    · subst e; simp
    · have : (p == y) = false := beq_eq_false_iff_ne.mpr e
      have e' : ¬ y = p := fun z => e z.symm
      rw [this, Bool.false_or]
      simp [e']
theorem flat_strs (ps : List Str) : (ps.map V.str).all flatV = true := by
  rw [List.all_map]
  exact List.all_eq_true.mpr fun _ _ => rfl
def gIn (r : Str) : V → V := fun v => match v with
  | .str y => .bl (Bs.inS y r)
  | _ => .non
theorem gIn_strs (r : Str) (ws : List Str) : (ws.map V.str).map (gIn r) = (ws.map fun w => Bs.inS w r).map V.bl := by
  rw [List.map_map, List.map_map]
  rfl
theorem gIn_chars (a b : Str) : (charsV a).map (gIn b) = ((Bs.ch a).map fun c => decide (c ∈ Bs.ch b)).map V.bl := by
  unfold charsV
  rw [List.map_map, List.map_map]
  refine List.map_congr_left fun c _ => ?_
  show V.bl (Bs.inS ⟨#[c]⟩ b) = V.bl (decide (c ∈ Bs.ch b))
  rw [Bs.inS_one]
/-- dicts whose keys are texts and whose values are True -/
def dTrue (ks : List Str) : List (Key × V) := ks.map fun k => ((Sum.inr k : Key), V.bl true)
theorem dTrue_keys (ks : List Str) : (dTrue ks).map (·.1) = ks.map (Sum.inr : Str → Key) := by
  unfold dTrue
  rw [List.map_map]
  rfl
theorem putK_true (ks : List Str) (b : Str) : putK (dTrue ks) (Sum.inr b : Key) (.bl true) = dTrue (Bs.addK ks b) := by
  unfold putK Bs.addK
  by_cases h : b ∈ ks
  · have h1 : ((dTrue ks).any fun kv => decide (kv.1 = (Sum.inr b : Key))) = true := by
      refine List.any_eq_true.mpr ⟨(Sum.inr b, .bl true), ?_, decide_eq_true rfl⟩
      exact List.mem_map.mpr ⟨b, h, rfl⟩
    rw [if_pos h1, if_pos h]
    unfold dTrue
    rw [List.map_map]
    refine List.map_congr_left fun k _ => ?_
    show (if (Sum.inr k : Key) = Sum.inr b then ((Sum.inr k : Key), V.bl true) else ((Sum.inr k : Key), V.bl true)) = _
    split <;> rfl
  · have h1 : ¬ ((dTrue ks).any fun kv => decide (kv.1 = (Sum.inr b : Key))) = true := by
      intro z
      obtain ⟨p, hp, e⟩ := List.any_eq_true.mp z
      obtain ⟨k, hk, rfl⟩ := List.mem_map.mp hp
      have : (Sum.inr k : Key) = Sum.inr b := of_decide_eq_true e
      have : k = b := Sum.inr.inj this
      subst this
      exact h hk
    rw [if_neg h1, if_neg h]
    unfold dTrue
    rw [List.map_append]
    rfl
theorem dTrue_len (ks : List Str) : (dTrue ks).length = ks.length := by unfold dTrue; rw [List.length_map]
/-- the size of a set of unlike signs -/
theorem firstD_nodup {x : Str} (h : (Bs.ch x).Nodup) : ∀ i, i ≤ x.cps.size → firstD (signAt x) i = (List.range i).map (signAt x)
  | 0, _ => rfl
  | i + 1, hi => by
    have ih := firstD_nodup h i (by omega)
    rw [firstD_succ, ih, List.range_succ, List.map_append]
    unfold stepD
    rw [if_neg]
    · rfl
    · intro z
      obtain ⟨y, hy, e⟩ := List.any_eq_true.mp z
      obtain ⟨j, hj, rfl⟩ := List.mem_map.mp hy
      have hj' : j < i := List.mem_range.mp hj
      have e' : signAt x j = signAt x i := eq_of_beq e
      unfold signAt at e'
      have e2 : x.cps.getD j 0 = x.cps.getD i 0 := by
        injection e' with e3
        have := congrArg Array.toList e3
        simpa using this
      have g : ∀ k, (hk : k < x.cps.size) → x.cps.getD k 0 = (Bs.ch x)[k]'(by simpa using hk) := fun k hk => by
        simp [Array.getD, hk]
      rw [g j (by omega), g i (by omega)] at e2
      have := (List.getElem_inj h).mp e2
      omega
theorem firstD_size {x : Str} (h : (Bs.ch x).Nodup) : (firstD (signAt x) x.cps.size).length = x.length := by
  rw [firstD_nodup h _ (Nat.le_refl _), List.length_map, List.length_range]
  rfl
end L2

set_option Elab.async false
set_option linter.all false
set_option maxRecDepth 100000
namespace L2
open PySem PySem.Spec PyProof.Rows
section
variable {X : Cx}
end
end L2

set_option Elab.async false
set_option linter.all false
set_option maxRecDepth 100000
set_option maxHeartbeats 4000000
namespace L2
open PySem
structure MthAt (K : PySem.W.Frag) (C : Addr) (nm qual : Str) (st : Stmt) (ps : List Str) (f : Addr) (fd : FuncData) : Prop where
  F : Fun K nm qual st f fd
  b : Binds K fd ps []
  m : Meth K C nm f
end L2
namespace Sx
open PySem L2 Bs
theorem bAll : bootBuiltins "all" = some (.builtin "all") := by decide +kernel
theorem bAny : bootBuiltins "any" = some (.builtin "any") := by decide +kernel
theorem bSorted : bootBuiltins "sorted" = some (.builtin "sorted") := by decide +kernel
theorem bIsi : bootBuiltins "isinstance" = some (.builtin "isinstance") := by decide +kernel
theorem bStr : bootBuiltins "str" = some (.type "str") := by decide +kernel
theorem bList : bootBuiltins "list" = some (.type "list") := by decide +kernel
theorem bSet : bootBuiltins "set" = some (.type "set") := by decide +kernel
section
variable {P : Program} {w : World} {K : PySem.W.Frag} {mg : Str → Option Value} {base : Heap} {f : Addr} {fd : FuncData}
/-! ### all_among -/
def spAmong : Sp := fun vs H Q _ => ∃ a b : Str, vs = [.str a, .str b] ∧ a.length ≤ 1000 ∧ ∀ H', Same H H' → Q (.bl ((ch a).all fun c => decide (c ∈ ch b))) H'
/-! ### bears_barred -/
def spBears (K : PySem.W.Frag) : Sp := fun vs H Q _ => ∃ (r : Str) (a : Addr) (ws : List Str), vs = [.str r, .ref a] ∧ SqL K H a (ws.map V.str) ∧ ws.length ≤ 1000 ∧ ∀ H', Same H H' → Q (.bl (bears ws r)) H'
end
end Sx

namespace Sx
open PySem L2 Bs
section
variable {P : Program} {w : World} {K : PySem.W.Frag} {mg : Str → Option Value} {base : Heap} {f : Addr} {fd : FuncData}
/-! ### are_signs -/
def spAre : Sp := fun vs H Q _ => ∃ x : Str, vs = [.str x] ∧ Signs x ∧ ∀ H', Same H H' → Q (.bl true) H'
/-! ### is_word -/
def spIsW : Sp := fun vs H Q _ => ∃ t g : Str, vs = [.str t, .str g] ∧ Word g t ∧ ∀ H', Same H H' → Q (.bl true) H'
/-! ### check_barred -/
def spCheck (K : PySem.W.Frag) : Sp := fun vs H Q _ => ∃ (a : Addr) (g : Str) (ws : List Str), vs = [.ref a, .str g] ∧ SqL K H a (ws.map V.str) ∧ ws.length ≤ 6 ∧ (∀ w ∈ ws, Word g w) ∧ ∀ H', Same H H' → Q .non H'
end
end Sx

namespace Bs
open PySem
def dropS (r : Str) (n : Nat) : Str := Txt.slice r (some (n : Int)) none
theorem dropS_all (r : Str) : dropS r r.length = "" := by
  refine ext_ch ?_
  show ch (Txt.slice r (some (r.length : Int)) none) = []
  rw [slice_from]
  exact List.drop_of_length_le (Nat.le_of_eq (len_ch r))
def lendN (ps : List Str) (r : Str) : Nat := ((List.range (r.length + 1)).find? fun n => decide (dropS r n ∈ ps)).getD 0
def lend (ps : List Str) (r : Str) : Str := dropS r (lendN ps r)
theorem lendN_eq {ps : List Str} {r : Str} {n : Nat} (h1 : dropS r n ∈ ps) (h2 : ∀ m, m < n → dropS r m ∉ ps) (h3 : n ≤ r.length) : lendN ps r = n := by
  unfold lendN
  have e : (List.range (r.length + 1)).find? (fun n => decide (dropS r n ∈ ps)) = some n := by
    rw [List.find?_range_eq_some]
    exact ⟨by simpa using h1, by simp; omega, fun j hj => by simpa using h2 j hj⟩
  rw [e]
  rfl
end Bs
namespace L2
open PySem Bs
/-- where a sign leads from a place -/
def mvV (ws ps : List Str) (p : Str) (c : Nat) : V := if bears ws (p ++ ⟨#[c]⟩) = true then .non else .str (lend ps (p ++ ⟨#[c]⟩))
def rowOf (g : Str) (ws ps : List Str) (p : Str) : List (Key × V) := (ch g).map fun c => ((Sum.inr (⟨#[c]⟩ : Str) : Key), mvV ws ps p c)
theorem rowOf_len (g : Str) (ws ps : List Str) (p : Str) : (rowOf g ws ps p).length = g.length := by unfold rowOf; rw [List.length_map, len_ch]
theorem rowOf_flat (g : Str) (ws ps : List Str) (p : Str) : ((rowOf g ws ps p).map (·.2)).all flatV = true := by
  unfold rowOf
  rw [List.map_map]
  refine List.all_eq_true.mpr fun v hv => ?_
  obtain ⟨c, _, rfl⟩ := List.mem_map.mp hv
  show flatV (mvV ws ps p c) = true
  unfold mvV
  split <;> rfl
end L2
namespace Sx
open PySem L2 Bs
section
variable {P : Program} {w : World} {K : PySem.W.Frag} {mg : Str → Option Value} {base : Heap} {f : Addr} {fd : FuncData}
/-! ### sorted_places -/
def spSorted (K : PySem.W.Frag) : Sp := fun vs H Q _ => ∃ (a : Addr) (ws : List Str), vs = [.ref a] ∧ SqL K H a (ws.map V.str) ∧ ws.length ≤ 6 ∧ (∀ w ∈ ws, w.length ≤ 5) ∧
  ∀ (l : Addr) (ss : List Str) (H' : Hp), Same H H' → H l = none → H' l = some (.lst (ss.map V.str)) → ss.Perm (keysS ws "" ws) → PyProof.Rows.sortedS ss = true → Q (.ref l) H'
/-! ### longest_end -/
def spLong (K : PySem.W.Frag) : Sp := fun vs H Q _ => ∃ (r : Str) (a : Addr) (ps : List Str), vs = [.str r, .ref a] ∧ SqL K H a (ps.map V.str) ∧ ("" : Str) ∈ ps ∧ r.length ≤ 1000 ∧ ∀ H', Same H H' → Q (.str (lend ps r)) H'
/-! ### moves_from -/
def spMoves (K : PySem.W.Frag) : Sp := fun vs H Q _ => ∃ (p g : Str) (a b : Addr) (ws ps : List Str), vs = [.str p, .str g, .ref a, .ref b] ∧ SqL K H a (ws.map V.str) ∧ SqL K H b (ps.map V.str) ∧ ("" : Str) ∈ ps ∧ p.length ≤ 100 ∧ g.length ≤ 10 ∧ (ch g).Nodup ∧ ws.length ≤ 1000 ∧
  ∀ (d : Addr) (H' : Hp), Same H H' → H d = none → H' d = some (.dK (rowOf g ws ps p)) → Q (.ref d) H'
end
end Sx

namespace L2
open PySem Bs
/-- does a row of moves lead into the lot -/
def leads (es : List (Key × V)) (lot : List Str) : Bool := (es.map (·.2)).any fun e => inV e (lot.map V.str)
theorem inV_mono {e : V} {a b : List Str} (h : ∀ k ∈ a, k ∈ b) (q : inV e (a.map V.str) = true) : inV e (b.map V.str) = true := by
  unfold inV at q ⊢
  obtain ⟨y, hy, e1⟩ := List.any_eq_true.mp q
  obtain ⟨k, hk, rfl⟩ := List.mem_map.mp hy
  exact List.any_eq_true.mpr ⟨_, List.mem_map.mpr ⟨k, h k hk, rfl⟩, e1⟩
theorem leads_mono {es : List (Key × V)} {a b : List Str} (h : ∀ k ∈ a, k ∈ b) (q : leads es a = true) : leads es b = true := by
  unfold leads at q ⊢
  obtain ⟨y, hy, e1⟩ := List.any_eq_true.mp q
  exact List.any_eq_true.mpr ⟨y, hy, inV_mono h e1⟩
/-- the greatest lot -/
structure Live (ks : List Str) (es : Str → List (Key × V)) (ls : List Str) : Prop where
  sub : ls.Sublist ks
  goes : ∀ k ∈ ls, leads (es k) ls = true
  most : ∀ lot : List Str, (∀ k ∈ lot, k ∈ ks ∧ leads (es k) lot = true) → ∀ k ∈ lot, k ∈ ls
theorem eqVs_strs : ∀ (a b : List Str), eqVs (a.map V.str) (b.map V.str) = decide (a = b)
  | [], [] => rfl
  | [], _ :: _ => rfl
  | _ :: _, [] => rfl
  | x :: xs, y :: ys => by
    show ((x == y) && eqVs (xs.map V.str) (ys.map V.str)) = _
    rw [eqVs_strs xs ys]
    by_cases e : x = y
    · subst e
      by_cases e2 : xs = ys
      · subst e2; simp
      · simp [e2]
    · have : (x == y) = false := beq_eq_false_iff_ne.mpr e
      rw [this]
      simp [e]
/-- the moves of a band: its places and the dicts of their rows -/
def dRows (mv : List (Str × Addr)) : List (Key × V) := mv.map fun m => ((Sum.inr m.1 : Key), V.ref m.2)
theorem dRows_keys (mv : List (Str × Addr)) : ((dRows mv).map fun kv => kV kv.1) = (mv.map (·.1)).map V.str := by
  unfold dRows
  rw [List.map_map, List.map_map]
  rfl
theorem dRows_val {mv : List (Str × Addr)} {k : Str} (h : k ∈ mv.map (·.1)) : ∃ a, (k, a) ∈ mv ∧ valV (dRows mv) (Sum.inr k : Key) = some (.ref a) := by
  induction mv with
  | nil => simp at h
  | cons m mv ih =>
    obtain ⟨j, b⟩ := m
    by_cases e : j = k
    · subst e
      exact ⟨b, List.mem_cons_self, valV_pos rfl⟩
    · have h' : k ∈ mv.map (·.1) := by
        rcases List.mem_cons.mp h with z | z
        · exact absurd z.symm e
        · exact z
      obtain ⟨a, ha, q⟩ := ih h'
      refine ⟨a, List.mem_cons_of_mem _ ha, ?_⟩
      unfold dRows
      rw [List.map_cons, valV_neg (fun z => e (Sum.inr.inj z))]
      exact q
theorem dRows_none {mv : List (Str × Addr)} {k : Str} (h : k ∉ mv.map (·.1)) : valV (dRows mv) (Sum.inr k : Key) = none := by
  cases q : valV (dRows mv) (Sum.inr k : Key) with
  | none => rfl
  | some v =>
    have := valV_in q
    unfold dRows at this
    rw [List.map_map] at this
    obtain ⟨m, hm, e⟩ := List.mem_map.mp this
    have e' : m.1 = k := Sum.inr.inj e
    exact absurd (List.mem_map.mpr ⟨m, hm, e'⟩) h
end L2
namespace Sx
open PySem L2 Bs
section
variable {P : Program} {w : World} {K : PySem.W.Frag} {mg : Str → Option Value} {base : Heap} {f : Addr} {fd : FuncData}
/-! ### leads_into -/
def gLot (ls : List V) : V → V := fun v => .bl (inV v ls)
def spLeads (K : PySem.W.Frag) : Sp := fun vs H Q _ => ∃ (a b : Addr) (es ls : List V), vs = [.ref a, .ref b] ∧ SqL K H a es ∧ SqL K H b ls ∧ es.all flatV = true ∧ ls.all flatV = true ∧ es.length ≤ 1000 ∧ ∀ H', Same H H' → Q (.bl (es.any fun e => inV e ls)) H'
/-! ### live_among -/
def spLive (K : PySem.W.Frag) : Sp := fun vs H Q _ => ∃ (d : Addr) (mv : List (Str × Addr)) (es : Str → List (Key × V)), vs = [.ref d] ∧ H d = some (.dK (dRows mv)) ∧ mv.length ≤ 1000 ∧ (∀ m ∈ mv, H m.2 = some (.dK (es m.1))) ∧ (∀ k, ((es k).map (·.2)).all flatV = true) ∧ (∀ k, (es k).length ≤ 1000) ∧
  ∀ (l : Addr) (ls : List Str) (H' : Hp), Same H H' → H l = none → H' l = some (.lst (ls.map V.str)) → Live (mv.map (·.1)) es ls → Q (.ref l) H'
end
end Sx

namespace Sx
open PySem L2 Bs
/-! ### a band -/
def flds (g : Str) (b d q : Addr) : List (Str × V) := [("signs", .str g), ("barred", .ref b), ("moves", .ref d), ("lasting", .ref q)]
def fl1 (g : Str) : List (Str × V) := [("signs", .str g)]
def fl2 (g : Str) (b : Addr) : List (Str × V) := [("signs", .str g), ("barred", .ref b)]
def fl3 (g : Str) (b d : Addr) : List (Str × V) := [("signs", .str g), ("barred", .ref b), ("moves", .ref d)]
theorem put1 (g : Str) : putF "signs" (.str g) [] = fl1 g := rfl
theorem put2 (g : Str) (b : Addr) : putF "barred" (.ref b) (fl1 g) = fl2 g b := by
  show (if ("signs" : Str) = "barred" then (("signs" : Str), V.ref b) :: [] else (("signs" : Str), V.str g) :: putF "barred" (.ref b) []) = _
  rw [if_neg (by decide +kernel)]
  rfl
theorem put3 (g : Str) (b d : Addr) : putF "moves" (.ref d) (fl2 g b) = fl3 g b d := by
  show (if ("signs" : Str) = "moves" then (("signs" : Str), V.ref d) :: [(("barred" : Str), V.ref b)] else (("signs" : Str), V.str g) :: (if ("barred" : Str) = "moves" then (("barred" : Str), V.ref d) :: [] else (("barred" : Str), V.ref b) :: putF "moves" (.ref d) [])) = _
  rw [if_neg (by decide +kernel), if_neg (by decide +kernel)]
  rfl
theorem put4 (g : Str) (b d q : Addr) : putF "lasting" (.ref q) (fl3 g b d) = flds g b d q := by
  show (if ("signs" : Str) = "lasting" then (("signs" : Str), V.ref q) :: [(("barred" : Str), V.ref b), (("moves" : Str), V.ref d)] else (("signs" : Str), V.str g) :: (if ("barred" : Str) = "lasting" then (("barred" : Str), V.ref q) :: [(("moves" : Str), V.ref d)] else (("barred" : Str), V.ref b) :: (if ("moves" : Str) = "lasting" then (("moves" : Str), V.ref q) :: [] else (("moves" : Str), V.ref d) :: putF "lasting" (.ref q) []))) = _
  rw [if_neg (by decide +kernel), if_neg (by decide +kernel), if_neg (by decide +kernel)]
  rfl
theorem look_moves3 (g : Str) (b d : Addr) : (fl3 g b d).lookup ("moves" : Str) = some (.ref d) := by
  rw [← put3, lookup_putF, if_pos rfl]
/-- what stands at x is a band -/
structure BandAt (C : Addr) (H : Hp) (x : Addr) (g : Str) (ws ss ls : List Str) : Prop where
  ex : ∃ (dx b d q : Addr) (mv : List (Str × Addr)), H x = some (.ins C dx (flds g b d q)) ∧ H b = some (.lst (ws.map V.str)) ∧ H d = some (.dK (dRows mv)) ∧ mv.map (·.1) = ss ∧ (∀ m ∈ mv, H m.2 = some (.dK (rowOf g ws ss m.1))) ∧ H q = some (.lst (ls.map V.str))
  pm : ss.Perm (keysS ws "" ws)
  so : PyProof.Rows.sortedS ss = true
  lv : Live ss (rowOf g ws ss) ls
theorem BandAt.same {C : Addr} {H H' : Hp} {x : Addr} {g : Str} {ws ss ls : List Str} (B : BandAt C H x g ws ss ls) (s : Same H H') : BandAt C H' x g ws ss ls := by
  obtain ⟨⟨dx, b, d, q, mv, h1, h2, h3, h4, h5, h6⟩, p, o, l⟩ := B
  exact ⟨⟨dx, b, d, q, mv, s _ _ h1, s _ _ h2, s _ _ h3, h4, fun m hm => s _ _ (h5 m hm), s _ _ h6⟩, p, o, l⟩
section
variable {P : Program} {w : World} {K : PySem.W.Frag} {mg : Str → Option Value} {base : Heap} {f : Addr} {fd : FuncData}
def spInit (K : PySem.W.Frag) (C : Addr) : Sp := fun vs H Q _ => ∃ (x dx : Addr) (g : Str) (a : Addr) (ws : List Str), vs = [.ref x, .str g, .ref a] ∧ H x = some (.ins C dx []) ∧ SqL K H a (ws.map V.str) ∧ Signs g ∧ ws.length ≤ 6 ∧ (∀ w ∈ ws, Word g w) ∧
  ∀ (ss ls : List Str) (H' : Hp), BandAt C H' x g ws ss ls → (∀ b o, H b = some o → b ≠ x → H' b = some o) → Q .non H'
theorem place_len {ws : List Str} (hw : ∀ w ∈ ws, w.length ≤ 5) : ∀ k ∈ keysS ws "" ws, k.length ≤ 5 := by
  have h1 : ∀ (w : Str), w.length ≤ 5 → ∀ (n : Nat) (ks : List Str), (∀ k ∈ ks, k.length ≤ 5) → ∀ k ∈ upTo ws w ks n, k.length ≤ 5 := by
    intro w hwl n
    induction n with
    | zero => intro ks h; exact h
    | succ n ih =>
      intro ks h k hk
      rw [upTo_succ] at hk
      unfold addP addK at hk
      split at hk
      · exact ih ks h k hk
      · split at hk
        · exact ih ks h k hk
        · rcases List.mem_append.mp hk with z | z
          · exact ih ks h k z
          · have : k = takeS w (1 + n) := by simpa using z
            rw [this]
            exact Nat.le_trans (takeS_len _ _) hwl
  have h2 : ∀ (us ks : List Str), (∀ w ∈ us, w.length ≤ 5) → (∀ k ∈ ks, k.length ≤ 5) → ∀ k ∈ us.foldl (addW ws) ks, k.length ≤ 5 := by
    intro us
    induction us with
    | nil => intro ks _ h; exact h
    | cons w us ih => intro ks hu h; exact ih _ (fun v hv => hu v (List.mem_cons_of_mem _ hv)) (h1 w (hu w (List.mem_cons_self ..)) _ ks h)
  exact h2 ws [""] hw (fun k hk => by have : k = "" := by simpa using hk
                                      subst this
                                      decide +kernel)
/-! ### places -/
def spPlaces (C : Addr) : Sp := fun vs H Q _ => ∃ (x : Addr) (g : Str) (ws ss ls : List Str), vs = [.ref x] ∧ BandAt C H x g ws ss ls ∧ ∀ (l : Addr) (H' : Hp), Same H H' → H l = none → H' l = some (.lst (ss.map V.str)) → Q (.ref l) H'
end
end Sx

namespace Sx
open PySem L2 Bs
section
variable {P : Program} {w : World} {K : PySem.W.Frag} {mg : Str → Option Value} {base : Heap} {f : Addr} {fd : FuncData}
/-! ### _law_cell -/
def cellN (ns : List Int) (p : Int) : Int := ns.getD p.toNat 0
def spCell (K : PySem.W.Frag) : Sp := fun vs H Q _ => ∃ (a : Addr) (ns : List Int) (p : Int), vs = [.ref a, .int p] ∧ SqL K H a (ns.map V.int) ∧ 0 ≤ p ∧ Q (.int (cellN ns p)) H
/-! ### _law_draw -/
def spDraw : Sp := fun vs H Q _ => ∃ c t m : Int, vs = [.int c, .int t, .int m] ∧ 0 ≤ t ∧ t ≤ 100000 ∧ 0 < m ∧ ∀ d, 0 ≤ d → d < m → Q (.int d) H
/-! ### _law_signs -/
def spSigns : Sp := fun vs H Q _ => ∃ c : Int, vs = [.int c] ∧ ∀ (x : Str) (H' : Hp), Signs x → Same H H' → Q (.str x) H'
end
end Sx

namespace L2
open PySem PySem.Spec PyProof.Rows
/-- a comprehension whose items are known by a property alone -/
theorem comp_rel {J : It} {Ok : Hp → Prop} {xs : List V} {l : Addr} {σf : St} {te : TE} {H : Hp} {Q : Hp → Prop} (R : V → Prop) (hJ : ItIs J Ok xs) (hl : H l = none) (hz : xs.length ≤ sizeLine) (hOk : ∀ H', Same H H' → Ok H')
    (he : ∀ x H3 Q', x ∈ xs → Same H H3 → (∀ y H', R y → Same H3 H' → Q' y H') → te (some x :: σf) H3 Q')
    (hd : ∀ ys H', Same H H' → ys.length = xs.length → (∀ y ∈ ys, R y) → H' l = some (.lst ys) → Q H') : CompW J l σf tYes te H Q := by
  refine ⟨fun i m ys H2 => m = xs.length - i ∧ i ≤ xs.length ∧ Same H H2 ∧ H2 l = some (.lst ys) ∧ ys.length = i ∧ ∀ y ∈ ys, R y, ⟨xs.length, by simp, Nat.zero_le _, Same.upd hl, upd_same, rfl, fun y hy => (nomatch hy)⟩, ?_⟩
  rintro i m ys H2 ⟨rfl, hi, s2, h2, e2, hR⟩
  refine ⟨h2, ?_⟩
  by_cases hlt : i < xs.length
  · refine .inr ⟨hJ.go i H2 (hOk _ s2) hlt, by omega, fun x H3 y => ?_⟩
    obtain ⟨e, hx⟩ := hJ.yld i H2 x H3 (hOk _ s2) hlt y
    subst e
    unfold tYes
    dsimp only
    rw [if_pos rfl]
    refine he x _ _ (List.mem_of_getElem? hx) s2 fun z H5 hz s5 => ?_
    refine ⟨s5 _ _ h2, xs.length - (i + 1), by omega, rfl, hlt, ?_, upd_same, by simp [e2], fun y hy => ?_⟩
    · intro b o e
      rw [upd_ne (ne_of_none e hl)]
      exact s5 _ _ (s2 _ _ e)
    · rcases List.mem_append.mp hy with q | q
      · exact hR y q
      · have : y = z := by simpa using q
        subst this
        exact hz
  · have e : i = xs.length := by omega
    subst e
    exact .inl ⟨hJ.stop H2 (hOk _ s2), hd ys H2 s2 e2 hR h2⟩
theorem strs_of {R : Str → Prop} : ∀ {ys : List V}, (∀ y ∈ ys, ∃ t, y = .str t ∧ R t) → ∃ ts : List Str, ys = ts.map V.str ∧ ∀ t ∈ ts, R t
  | [], _ => ⟨[], rfl, fun _ h => nomatch h⟩
  | y :: ys, h => by
    obtain ⟨t, rfl, ht⟩ := h y (List.mem_cons_self ..)
    obtain ⟨ts, rfl, hts⟩ := strs_of (R := R) (ys := ys) fun y hy => h y (List.mem_cons_of_mem _ hy)
    refine ⟨t :: ts, rfl, fun u hu => ?_⟩
    rcases List.mem_cons.mp hu with rfl | hu
    · exact ht
    · exact hts u hu
end L2
namespace Sx
open PySem L2 Bs
section
variable {P : Program} {w : World} {K : PySem.W.Frag} {mg : Str → Option Value} {base : Heap} {f : Addr} {fd : FuncData}
/-! ### _law_word -/
def spWord : Sp := fun vs H Q _ => ∃ (c : Int) (g : Str), vs = [.int c, .str g] ∧ 1 ≤ g.length ∧ g.length ≤ 10 ∧ ∀ (x : Str) (H' : Hp), Word g x → Same H H' → Q (.str x) H'
theorem longs : ∀ d : Int, 0 ≤ d → d < 8 → ∃ n : Int, atI ([.int 1, .int 2, .int 3, .int 3, .int 4, .int 4, .int 5, .int 5] : List V) d = some (.int n) ∧ 1 ≤ n ∧ n ≤ 5 := by
  intro d h0 h1
  have : d = 0 ∨ d = 1 ∨ d = 2 ∨ d = 3 ∨ d = 4 ∨ d = 5 ∨ d = 6 ∨ d = 7 := by omega
  rcases this with rfl | rfl | rfl | rfl | rfl | rfl | rfl | rfl
  · exact ⟨1, rfl, by decide, by decide⟩
  · exact ⟨2, rfl, by decide, by decide⟩
  · exact ⟨3, rfl, by decide, by decide⟩
  · exact ⟨3, rfl, by decide, by decide⟩
  · exact ⟨4, rfl, by decide, by decide⟩
  · exact ⟨4, rfl, by decide, by decide⟩
  · exact ⟨5, rfl, by decide, by decide⟩
  · exact ⟨5, rfl, by decide, by decide⟩
/-! ### _law_words -/
def spWords (K : PySem.W.Frag) : Sp := fun vs H Q _ => ∃ (a : Addr) (ns : List Int) (p : Int) (g : Str) (m : Int), vs = [.ref a, .int p, .str g, .int m] ∧ SqL K H a (ns.map V.int) ∧ 0 ≤ p ∧ 0 ≤ m ∧ m ≤ 100 ∧ 1 ≤ g.length ∧ g.length ≤ 10 ∧
  ∀ (l : Addr) (ws : List Str) (H' : Hp), Same H H' → H l = none → H' l = some (.lst (ws.map V.str)) → (ws.length : Int) ≤ m → (∀ w ∈ ws, Word g w) → Q (.ref l) H'
end
end Sx

namespace Sx
open PySem L2 Bs
section
variable {P : Program} {w : World} {K : PySem.W.Frag} {mg : Str → Option Value} {base : Heap} {f : Addr} {fd : FuncData}
/-! ### _law_due -/
/-! ### _law_alike -/
def spAlike : Sp := fun vs H Q _ => ∃ (a b : Addr) (ss : List Str), vs = [.ref a, .ref b] ∧ H a = some (.lst (ss.map V.str)) ∧ H b = some (.lst (ss.map V.str)) ∧ ss.length ≤ 1000 ∧ Q (.bl true) H
end
end Sx

namespace L2
open PySem Bs
/-! ### the greatest lot, by rounds -/
def roundF (ss : List Str) (es : Str → List (Key × V)) (lot : List Str) : List Str := ss.filter fun p => leads (es p) lot
def rounds (ss : List Str) (es : Str → List (Key × V)) : Nat → List Str
  | 0 => ss
  | n + 1 => roundF ss es (rounds ss es n)
end L2
namespace Sx
open PySem L2 Bs
theorem noF (g : Str) (b d q : Addr) {m : Str} (h1 : ¬ m = "signs") (h2 : ¬ m = "barred") (h3 : ¬ m = "moves") (h4 : ¬ m = "lasting") : (flds g b d q).lookup m = none := by
  rw [← put4, lookup_putF, if_neg h4, ← put3, lookup_putF, if_neg h3, ← put2, lookup_putF, if_neg h2, ← put1, lookup_putF, if_neg h1]
  rfl
theorem BandAt.nd {C : Addr} {H : Hp} {x : Addr} {g : Str} {ws ss ls : List Str} (B : BandAt C H x g ws ss ls) : ss.Nodup := B.pm.nodup_iff.mpr (keysS_nodup ws)
section
variable {P : Program} {w : World} {K : PySem.W.Frag} {mg : Str → Option Value} {base : Heap} {f : Addr} {fd : FuncData}
/-! ### live -/
def spLiveM (C : Addr) : Sp := fun vs H Q _ => ∃ (x : Addr) (g : Str) (ws ss ls : List Str), vs = [.ref x] ∧ BandAt C H x g ws ss ls ∧ ∀ (l : Addr) (H' : Hp), Same H H' → H l = none → H' l = some (.lst (ls.map V.str)) → Q (.ref l) H'
/-! ### check_place, led -/
def spCP (C : Addr) : Sp := fun vs H Q _ => ∃ (x : Addr) (p : Str) (g : Str) (ws ss ls : List Str), vs = [.ref x, .str p] ∧ BandAt C H x g ws ss ls ∧ p ∈ ss ∧ Q .non H
def spLed (C : Addr) : Sp := fun vs H Q _ => ∃ (x : Addr) (p : Str) (c : Nat) (g : Str) (ws ss ls : List Str), vs = [.ref x, .str p, .str ⟨#[c]⟩] ∧ BandAt C H x g ws ss ls ∧ p ∈ ss ∧ c ∈ ch g ∧ Q (mvV ws ss p c) H
/-! ### _law_on -/
def spOn (K : PySem.W.Frag) (C : Addr) : Sp := fun vs H Q _ => ∃ (x lp : Addr) (g : Str) (ws ss ls : List Str), vs = [.ref x, .str g, .ref lp] ∧ BandAt C H x g ws ss ls ∧ SqL K H lp (ss.map V.str) ∧ g.length ≤ 10 ∧ ss.length ≤ 1000 ∧
  ∀ (l : Addr) (H' : Hp), Same H H' → H l = none → H' l = some (.lst (ls.map V.str)) → Q (.ref l) H'
def gLed (ws ss : List Str) (p : Str) (lot : List Str) : V → V := fun v => match v with
  | .str z => .bl (inV (mvV ws ss p (z.cps.getD 0 0)) (lot.map V.str))
  | _ => .non
end
end Sx
namespace Sx
open PySem L2 Bs
/-! ### what the top has written -/
structure Raw (K : PySem.W.Frag) (nm qual : Str) (st : Stmt) (f : Addr) : Prop where
  ex : ∃ (oc : Value) (od : Option Addr) (kV doc pm : Value) (an : Option Addr) (cdv ct : Value) (osl : Array (Option Value)),
    K.lookup f = some ⟨oc, od, .func (PySem.W.fnOf nm qual (defArgs st) (defBody st) (defScope st) .none kV doc pm an cdv ct), osl⟩ ∧ PySem.W.codeIn K cdv qual = true
  kp : PySem.W.keepIn K (.ref f) = true
theorem raw_mk {K : PySem.W.Frag} {nm qual : Str} {st : Stmt} {f : Addr} {oc : Value} {od an : Option Addr} {osl : Array (Option Value)} {kV doc pm cdv ct : Value} (l : K.lookup f = some ⟨oc, od, .func (PySem.W.fnOf nm qual (defArgs st) (defBody st) (defScope st) .none kV doc pm an cdv ct), osl⟩)
    (c : PySem.W.codeIn K cdv qual = true) (k : PySem.W.keepIn K (.ref f) = true) : Raw K nm qual st f := ⟨⟨oc, od, kV, doc, pm, an, cdv, ct, osl, l, c⟩, k⟩
theorem Raw.fn {K : PySem.W.Frag} {nm qual : Str} {st : Stmt} {f : Addr} {ps : List Str} (R : Raw K nm qual st f)
    (h : ∀ (kV doc pm : Value) (an : Option Addr) (cdv ct : Value) (us : List Value), us.length = ps.length → bindArgs (PySem.W.fnOf nm qual (defArgs st) (defBody st) (defScope st) .none kV doc pm an cdv ct) ⟨us, []⟩ = pure (ps.zip us)) :
    ∃ fd, Fun K nm qual st f fd ∧ Binds K fd ps [] := by
  obtain ⟨⟨oc, od, kV, doc, pm, an, cdv, ct, osl, l, c⟩, k⟩ := R
  have F := fun_mk (st := st) l c k
  exact ⟨_, F, F.binds h⟩
theorem Raw.at_ {K : PySem.W.Frag} {nm : Str} {st : Stmt} {f : Addr} {ps : List Str} {mg : Str → Option Value} {hp : Heap} (X : K.In hp) (G : hp.Ns mainGlobals mg) (a : PySem.W.nsIn K mainGlobals nm = some (some (.ref f))) (R : Raw K nm nm st f)
    (h : ∀ (kV doc pm : Value) (an : Option Addr) (cdv ct : Value) (us : List Value), us.length = ps.length → bindArgs (PySem.W.fnOf nm nm (defArgs st) (defBody st) (defScope st) .none kV doc pm an cdv ct) ⟨us, []⟩ = pure (ps.zip us)) :
    ∃ fd, FnAt K mg nm st ps f fd := by
  obtain ⟨fd, F, b⟩ := R.fn h
  exact ⟨fd, F, b, PySem.W.mg_of X G a⟩
def spLaw (K : PySem.W.Frag) : Sp := fun vs H Q _ => ∃ (a : Addr) (ns : List Int), vs = [.ref a] ∧ SqL K H a (ns.map V.int) ∧ ns.length ≤ 63 ∧ ∀ H', Q (.bl true) H'
end Sx

set_option Elab.async false
set_option linter.all false
set_option maxRecDepth 100000
set_option maxHeartbeats 4000000
namespace L2
open PySem PySem.Spec PyProof.Rows
section
variable {X : Cx} {st : Stmt} {rest : List Stmt} {t u : TS}
/-- a statement and what follows, by what holds between them -/
def tCut (t u : TS) : TS := fun D σ H => ∃ Z : St → Hp → Prop, t { D with nx := Z } σ H ∧ ∀ σ' H', Z σ' H' → u D σ' H'
theorem pss_cut (h1 : PS X st t) (h2 : PSs X rest u) : PSs X (st :: rest) (tCut t u) := by
  intro pins s σ H D I h
  obtain ⟨Z, hz, hu⟩ := h
  refine wpAny_execs_cons (thn (h1 pins s σ H { D with nx := Z } I hz) fun f s1 q => ?_)
  cases f with
  | next =>
    obtain ⟨σ', H', I', q⟩ := q
    exact h2 pins s1 σ' H' D I' (hu σ' H' q)
  | ret v => exact q
  | brk => exact q
  | cont => exact q
end
end L2
namespace Sx
open PySem L2 Bs
/-- one sign as a text -/
def one (c : Nat) : Str := ⟨#[c]⟩
/-- a new object and its dict leave the rest as it was -/
theorem made_same {Hx : Hp} {x dx : Addr} {o1 o2 : HO} (nx : Hx x = none) (ndx : Hx dx = none) : Same Hx (upd (upd Hx dx o1) x o2) := fun b o e => by rw [upd_ne (ne_of_none e nx), upd_ne (ne_of_none e ndx)]; exact e
theorem BandAt.few {C : Addr} {H : Hp} {x : Addr} {g : Str} {ws ss ls : List Str} (B : BandAt C H x g ws ss ls) (hl : ws.length ≤ 6) (hw : ∀ w ∈ ws, Word g w) : ss.length ≤ 25 := by
  have := keysS_len (ws := ws) (e := "") (us := ws) fun w hw' => (hw w hw').hi
  rw [B.pm.length_eq]; omega
end Sx

set_option Elab.async false
set_option linter.all false
set_option maxRecDepth 100000
set_option maxHeartbeats 4000000
namespace L2
open PySem PySem.Spec PyProof.Rows PySem.W
section
variable {prog : Program} {w : World} {A : Around} {R : Result → Shared → Prop} {h : Heap} {g : Array GenState} {d : Drawn} {t : Nat} {os : OsState}
variable {nm q : Str} {C N : Addr} {bs bm bmB : List Value} {hdct : Bool} {sn : List Str} {sub : List Value} {ab : Bool} {col : Option Bool} {dd : Option Addr} {k0 k1 k2 k3 k5 : Option Value} {B newId initId : String}
/-- the object of a new exception: its arguments' tuple at t -/
abbrev excObj (C t : Addr) : Obj := { cls := .ref C, data := .fields #[.ref t, .none, .none, .none, .bool false, .none] }
abbrev tupObj (vs : List Value) : Obj := { cls := .type "tuple", data := .seq vs.toArray }
end
end L2

set_option Elab.async false
set_option linter.all false
set_option maxRecDepth 100000
set_option maxHeartbeats 4000000
namespace L2
open PySem PySem.Spec PyProof.Rows PySem.W
open Builtin Builtin.ObjectAttr
/-- the classes above an own error class C under BandError (at CB) -/
abbrev bmV : List Value := [.type "ValueError", .type "Exception", .type "BaseException", .type "object"]
abbrev bmX (CB : Addr) : List Value := .ref CB :: bmV
section
variable {prog : Program} {w : World} {A : Around} {E : Value → Shared → Prop} {s : Shared} {K : PySem.W.Frag} {x dx C CB f : Addr} {mA : Str → Option Value} {name : Str} {v : Value} {R : Result → Shared → Prop}
theorem xosa_open {ox : Obj} {od : Option Obj} {tk : Tok} {cd : ClassData} (X : K.In s.heap) (I : InstAt s.heap x ox C od) (hc : clsIn K C = some cd) (hm : cd.mro = .ref C :: bmX CB) (ha : findIn K (.ref C) name = some none)
    (h : wpAny (model prog w) A.in1 (storeInOwnDict (.ref x) (.ref C) (.str name tk) name v false)
      (fun fin s' => match fin with | .done f => R (.ok f) s' | .again c' => c'.quiet = true ∧ codeAny (model prog w) A c' R s') (fun e s' => R (.error e) s') s) :
    codeAny (model prog w) A (.call (.builtin "object.__setattr__") ⟨[.ref x, .str name tk, v], []⟩) R s := by
  have SF := PySem.F.store_object
  have sub : Looks (model prog w) s.heap (isInstance (.ref x) (.type "object")) true := I.type.andThen (looks_mroIn X (by unfold mroIn; rw [hc, Option.bind_some, hm]; rfl))
  refine codeAny_call_builtin SF.slot.plain SF.entry (@check_slot (model prog w) _ _ s "object.__setattr__" "object" "__setattr__" (.ref x) [.str name tk, v] [] _ SF.kind SF.split sub (SF.args (.ref x) (.str name tk) v) ?_)
  have hm' : Looks (model prog w) s.heap (mroOf (.ref C)) cd.mro := (looks_clsIn X hc).andThen .now
  have L3 : Looks (model prog w) s.heap (storeTaker? none) none := .now
  rw [osa_eq, refuse_eq]
  refine wpAny_bind (wpAny_bind (I.type.here (wpAny_bind (hm'.here ?_))))
  rw [hm, refuseLoop_ref, refuseLoop_ref, PySem.F.store_ValueError.passes]
  refine wpAny_pure (wpAny_bind (I.type.here (wpAny_bind ((looks_findIn X ha).here (wpAny_bind (L3.here ?_))))))
  exact h
/-- self.name = v, the first attribute of a new error -/
theorem xset_new {t : Addr} {cd : ClassData} {Q : Unit → Shared → Prop} (X : K.In s.heap) (hx : s.heap.get? x = some (excObj C t)) (hc : clsIn K C = some cd) (hm : cd.mro = .ref C :: bmX CB) (hh : cd.hasDict = true) (ha : findIn K (.ref C) name = some none)
    (hs : findIn K (.ref C) "__setattr__" = some (some (.builtin "object.__setattr__")))
    (h : ∀ h' d tk, s.heap.objs.size ≤ d → (∀ b o, b ≠ x → s.heap.get? b = some o → h'.get? b = some o) → h'.get? x = some { cls := .ref C, dict := some d, data := .fields #[.ref t, .none, .none, .none, .bool false, .none] } → h'.Ns1 d (fun y => if y = name then some v else none) → Q () { s with heap := h', toks := tk }) :
    wpAny (model prog w) A (setAttr (.ref x) name v) Q E s := by
  have J : InstAt s.heap x (excObj C t) C none := ⟨hx, rfl, rfl, trivial⟩
  refine PySem.W.set_plain X J hs (xosa_open (s := { s with toks := s.toks + 1 }) X J hc hm ha ?_)
  unfold storeInOwnDict
  refine wpAny_bind (wpAny_pure ?_)
  rw [if_neg (by simp)]
  unfold ownDictForStores instanceDict
  refine wpAny_bind (wpAny_bind (wpAny_loadPart hx ?_))
  dsimp only
  refine wpAny_bind (PySem.W.Looks.here (s := { s with toks := s.toks + 1 }) (PySem.W.looks_clsIn X hc) ?_)
  rw [hh]
  have hx₁ : (s.heap.push { cls := .type "dict", data := .dict #[] }).get? x = some (excObj C t) := Heap.get?_push_of_some _ hx
  have hxs : x ≠ s.heap.objs.size := Nat.ne_of_lt (Heap.lt_size hx)
  simp only [Bool.not_true, Bool.false_eq_true, if_false, Bool.not_false, Bool.false_or]
  rw [if_neg (by simp [typeHasDict])]
  refine wpAny_bind (wpAny_alloc ?_)
  refine wpAny_bind (wpAny_update hx₁ ?_)
  refine wpAny_pure ?_
  have hgd : ((s.heap.push { cls := .type "dict", data := .dict #[] }).update x fun o => { cls := o.cls, dict := some s.heap.objs.size, data := o.data, slots := o.slots }).get? s.heap.objs.size
      = some { cls := .type "dict", data := .dict #[] } := (Heap.get?_update_ne _ _ _ _ hxs.symm).trans (Heap.get?_push_at rfl rfl)
  have hnd : ((s.heap.push { cls := .type "dict", data := .dict #[] }).update x fun o => { cls := o.cls, dict := some s.heap.objs.size, data := o.data, slots := o.slots }).Ns s.heap.objs.size (fun _ => none) :=
    ⟨_, #[], _, hgd, rfl, fun e he => absurd he (by simp), fun _ => rfl⟩
  show wpAny _ _ (storeInDict s.heap.objs.size (.str name s.toks) name v) _ _ _
  unfold storeInDict newKeyGuard
  refine wpAny_bind (wpAny_pure (wpAny_bind (wpAny_nsSet1 (Heap.Ns1.of_empty hnd) fun h' hn' hs' => ?_)))
  obtain ⟨oD, esD, epD, hoD, hdD, hcD⟩ := hn'.count (Within.cons name v Within.nil)
  refine wpAny_bind (wpAny_lookBehind hoD (by rw [hdD]; exact pastItsLine_dict (Nat.le_trans hcD (by rw [List.length_cons, List.length_nil, sizeLine_eq]; omega))) ?_)
  wp_walk
  refine h h' s.heap.objs.size _ (Nat.le_refl _) (fun b ob hbx hb => ?_) ?_ hn'
  · exact (hs'.2 b (Nat.ne_of_lt (Heap.lt_size hb))).trans ((Heap.get?_update_ne _ _ _ _ hbx).trans (Heap.get?_push_of_some _ hb))
  · exact (hs'.2 x hxs).trans (Heap.get?_update_self _ hx₁ rfl)
end
end L2

set_option Elab.async false
set_option linter.all false
set_option maxRecDepth 100000
set_option maxHeartbeats 4000000
namespace L2
open PySem PySem.Spec PyProof.Rows PySem.W
open Builtin Builtin.ObjectAttr
section
variable {prog : Program} {w : World} {A : Around} {E : Value → Shared → Prop} {s : Shared} {K : PySem.W.Frag} {x dx C CB f : Addr} {mA : Str → Option Value} {name : Str} {v : Value} {R : Result → Shared → Prop}
/-- e.name of an error that has the attribute in its own dict -/
theorem xget_own {ox od : Obj} {cd : ClassData} {expr : Bool} {Q : Value → Shared → Prop} (X : K.In s.heap) (I : InstAt s.heap x ox C (some od)) (hc : clsIn K C = some cd) (hm : cd.mro = .ref C :: bmX CB) (hh : cd.hasDict = true)
    (hga : findIn K (.ref C) "__getattribute__" = some (some (.builtin "BaseException.__getattribute__"))) (hgh : findIn K (.ref C) "__getattr__" = some none) (ha : findIn K (.ref C) name = some none)
    (hl : lookIn name od = some (some v)) (hv : handedIn v = true) (h : Q v { s with toks := s.toks + 1 }) : wpAny (model prog w) A (getAttr (.ref x) name expr) Q E s := by
  have G := PySem.F.excAttr_ValueError.ga
  refine wpAny_bind (wpAny_mkText (wpAny_holding (wpAny_bind (I.type _ _ _ _ (fun _ _ e => e) (wpAny_bind (looks_findIn X hga _ _ _ _ (fun _ _ e => e) ?_))))))
  dsimp only
  rw [show (onTheHeap (Value.ref C) && Value.builtin "BaseException.__getattribute__" == Value.builtin "object.__getattribute__") = false from by rw [show (Value.builtin "BaseException.__getattribute__" == Value.builtin "object.__getattribute__") = false from by decide +kernel, Bool.and_false], if_neg (by decide)]
  have hb : Looks (model prog w) s.heap (hookBefore (.ref C)) none := looks_hook X (by show (if onTheHeap (Value.ref C) then findIn K (.ref C) "__getattr__" else some none) = some none; rw [if_pos (show onTheHeap (Value.ref C) = true from rfl)]; exact hgh)
  refine wpAny_bind (hb _ _ _ _ (fun _ _ e => e) (wpAny_bind (wpAny_attempt (wpAny_holding ?_))))
  unfold callGetattribute
  rw [show (expr && onTheHeap (Value.builtin "BaseException.__getattribute__")) = false from Bool.and_false _, if_neg (by decide)]
  unfold boundAndCalled
  rw [G.bind]
  refine wpAny_bind (wpAny_pure ?_)
  show wpAny _ _ (call (.builtin "BaseException.__getattribute__") [.ref x, .str name s.toks]) _ _ _
  refine wpAny_call ?_
  have sub : Looks (model prog w) s.heap (isInstance (.ref x) (.type "BaseException")) true := I.type.andThen (looks_mroIn X (by unfold mroIn; rw [hc, Option.bind_some, hm]; rfl))
  refine codeAny_call_builtin G.plain PySem.F.entry_bexc_ga ?_
  refine @check_slot (model prog w) _ _ { s with toks := s.toks + 1 } "BaseException.__getattribute__" "BaseException" "__getattribute__" (.ref x) [.str name s.toks] [] _ (by decide +kernel) (by decide +kernel) sub (PySem.F.args_bexc_ga (.ref x) (.str name s.toks)) ?_
  have hf : findObj K C (some od) name = some (.value v) := by
    unfold findObj
    rw [hc, ha]
    simp only [Option.bind_some]
    unfold PySem.W.ownOf
    rw [hh, if_pos rfl]
    dsimp only
    rw [hl]
    rfl
  have L0 := I.type (M := model prog w)
  have L1 := looks_find (M := model prog w) X I hf
  unfold Builtin.«object.__getattribute__»
  refine wpAny_bind (wpAny_pure ?_)
  refine wpAny_bind (wpAny_pure (wpAny_bind (L0 _ _ _ _ (fun _ _ e => e) (wpAny_bind (L1 _ _ _ _ (fun _ _ e => e) ?_)))))
  refine wpAny_pure ?_
  show wpAny _ _ (handedOut v) _ _ _
  rw [handedOut_of hv]; exact wpAny_pure h
end
end L2

set_option Elab.async false
set_option linter.all false
set_option maxRecDepth 100000
set_option maxHeartbeats 4000000
namespace L2
open PySem PySem.Spec PyProof.Rows PySem.W
open Builtin Builtin.ObjectAttr
section
variable {prog : Program} {w : World} {A : Around} {E : Value → Shared → Prop} {s : Shared} {K : PySem.W.Frag} {x dx C CB f : Addr} {mA : Str → Option Value} {name : Str} {v : Value} {R : Result → Shared → Prop} {nm q : Str} {N : Addr} {bs : List Value} {sn : List Str} {sub : List Value} {ab : Bool} {col : Option Bool} {dd : Option Addr} {k0 k1 k2 k3 k5 : Option Value}
/-- ValueError.__init__ of a new error: its arguments' tuple is another one -/
theorem xinit_code {t : Addr} {u : Value} (X : K.In s.heap) (hx : s.heap.get? x = some (excObj C t)) (hk : K.lookup C = some (excClassObj nm q C N bs (bmX CB) true sn sub ab col dd k0 k1 k2 k3 k5 "ValueError.__new__"))
    (h : ∀ h' t', (∀ b o, b ≠ x → s.heap.get? b = some o → h'.get? b = some o) → h'.get? x = some (excObj C t') → R (.ok (.ret .none)) { s with heap := h' }) :
    codeAny (model prog w) A (.call (.builtin "ValueError.__init__") ⟨[.ref x, u], []⟩) R s := by
  have F := PySem.F.excBase_ValueError
  have hC := X _ _ hk
  have J : InstAt s.heap x (excObj C t) C none := ⟨hx, rfl, rfl, trivial⟩
  have sub : Looks (model prog w) s.heap (isInstance (.ref x) (.type "ValueError")) true := J.type.andThen (looks_mroIn X (by unfold mroIn clsIn; rw [hk]; rfl))
  refine codeAny_call_builtin F.init.plain F.initEntry ?_
  simp only [checkBuiltinCall, F.initKind, F.initSplit, F.initRow]
  refine wpAny_bind (sub.here ?_)
  simp only [Bool.not_true, Bool.false_eq_true, if_false]
  have hshort := F.noStar
  obtain ⟨hh, g, d, tk, os⟩ := s
  repeat (first | with_reducible refine wpAny_loadPart_at hC ?_ | wp_step)
  have hxs : x ≠ hh.objs.size := Nat.ne_of_lt (Heap.lt_size hx)
  refine h _ hh.objs.size (fun b o hb e => ?_) ?_
  · rw [Heap.get?_update_other _ _ (Ne.symm hb)]
    exact Heap.get?_push_of_some _ e
  · exact Heap.get?_update_self _ (Heap.get?_push_of_some _ hx) rfl
theorem xinit_call {t : Addr} {u : Value} {Q : Value → Shared → Prop} (X : K.In s.heap) (hx : s.heap.get? x = some (excObj C t)) (hk : K.lookup C = some (excClassObj nm q C N bs (bmX CB) true sn sub ab col dd k0 k1 k2 k3 k5 "ValueError.__new__"))
    (h : ∀ h' t', (∀ b o, b ≠ x → s.heap.get? b = some o → h'.get? b = some o) → h'.get? x = some (excObj C t') → Q .none { s with heap := h' }) :
    wpAny (model prog w) A (call (.builtin "ValueError.__init__") [.ref x, u]) Q E s := wpAny_call (xinit_code X hx hk h)
end
end L2

set_option Elab.async false
set_option linter.all false
set_option maxRecDepth 100000
set_option maxHeartbeats 4000000
namespace L2
open PySem PySem.Spec PyProof.Rows
/-- an error on its way: its object (and its traceback's head) is younger than lo and not tracked -/
structure Fly (lo : Nat) (H : Hp) (h : Heap) (e C : Addr) (od : Option Addr) : Prop where
  ge : lo ≤ e
  nt : H e = none
  ob : ∃ vs sl, h.get? e = some ⟨.ref C, od, .fields vs, sl⟩ ∧ 1 < vs.size ∧
    (vs[1]? = some .none ∨ ∃ T oT ts, vs[1]? = some (.ref T) ∧ lo ≤ T ∧ H T = none ∧ T ≠ e ∧ h.get? T = some oT ∧ oT.data = .fields ts ∧ ts[3]? = some .none)
theorem Fly.low {lo lo' : Nat} {H : Hp} {h : Heap} {e C : Addr} {od : Option Addr} (F : Fly lo H h e C od) (hl : lo' ≤ lo) : Fly lo' H h e C od := by
  obtain ⟨g, n, vs, sl, h1, h2, h3⟩ := F
  refine ⟨Nat.le_trans hl g, n, vs, sl, h1, h2, ?_⟩
  rcases h3 with h3 | ⟨T, oT, ts, a, b, c, d⟩
  · exact .inl h3
  · exact .inr ⟨T, oT, ts, a, Nat.le_trans hl b, c, d⟩
section
variable {M : Model} {A : Around} {E : Value → Shared → Prop} {s : Shared} {base : Heap} {env : Env} {outer : List Env} {L e C : Addr} {od : Option Addr} {lo : Nat} {H : Hp}
/-- what is kept where an error passes a frame -/
structure Past (lo : Nat) (H : Hp) (fs : List Addr) (h h' : Heap) : Prop where
  keep : ∀ b o, h.get? b = some o → (b < lo ∨ H b ≠ none) → b ∉ fs → h'.get? b = some o
  slot : ∀ b o, h.get? b = some o → b ∈ fs → ∃ sl, h'.get? b = some { o with slots := sl }
theorem fly_entry {oe : Obj} {vs : Array Value} {head : Value} {hadNext : Bool} {Q : Unit → Shared → Prop}
    (hfr : A.frames = some (env :: outer)) (hl : s.heap.FunFrames base (env :: outer)) (hf : env.frame = some L) (hlo : lo ≤ s.heap.objs.size) (hfree : ∀ b, s.heap.objs.size ≤ b → H b = none) (hge : lo ≤ e) (hnt : H e = none)
    (he : s.heap.get? e = some oe) (hcl : oe.cls = .ref C) (hod : oe.dict = od) (hd : oe.data = .fields vs) (hsz : 1 < vs.size)
    (h : ∀ h', Fly lo H h' e C od → Past lo H ((env :: outer).filterMap (·.frame)) s.heap h' → Q () { s with heap := h' }) :
    wpAny M A (do let a ← frameOf env; let pl ← entryPlaceOf L hadNext; let b ← EntryCells.newEntry head a .none (rawInt L) .none pl; setField (.ref e) 1 b) (fun _ s' => wpAny M A (setFlight (.ref e) none) Q E s') E s := by
  have hene : e ∉ (env :: outer).filterMap (·.frame) := fun hm => by
    obtain ⟨_, o, ho, hnf⟩ := hl.mem hm
    rw [he] at ho; injection ho with ho; subst ho; exact hnf vs hd
  refine wpAny_bind (wpAny_frameOf_fun hfr hl hf fun h₁ hs₁ => ?_)
  refine wpAny_bind (wpAny_entryPlaceOf fun pl hpl => ?_)
  unfold EntryCells.newEntry newFields
  refine wpAny_bind (wpAny_newObj_type ?_ (hpl.sizeOk5 _ _ _ _ _))
  have he₁ : h₁.get? e = some oe := (hs₁.2.1 e hene).trans he
  have he₂ := Heap.get?_push_of_some (h := h₁) { cls := .type "traceback", dict := none, data := .fields ([head, .ref L, .none, rawInt L, .none] ++ (if pl.isEmpty then List.replicate 6 Value.none else pl)).toArray } he₁
  refine wpAny_setField he₂ hd hsz ?_
  have hTe : h₁.objs.size ≠ e := Nat.ne_of_gt (Heap.lt_size he₁)
  have hd₃ := Obj.data_mapFields hd (·.setIfInBounds 1 (Value.ref h₁.objs.size))
  have he₃ := Heap.get?_update_self (Obj.mapFields (·.setIfInBounds 1 (Value.ref h₁.objs.size))) he₂ (Obj.isFreed_of_fields hd₃)
  have hT₃ := (Heap.get?_update_other (h₁.push { cls := .type "traceback", dict := none, data := .fields ([head, .ref L, .none, rawInt L, .none] ++ (if pl.isEmpty then List.replicate 6 Value.none else pl)).toArray })
    (Obj.mapFields (·.setIfInBounds 1 (Value.ref h₁.objs.size))) (Ne.symm hTe)).trans (Heap.get?_push_size h₁ rfl)
  unfold setFlight
  refine wpAny_bind (wpAny_field he₃ hd₃ (x := .ref h₁.objs.size) (by simp [hsz]) ?_)
  rw [if_pos (show (Value.ref h₁.objs.size != Value.none) = true from by simp)]
  refine wpAny_setField hT₃ rfl (by simp only [List.size_toArray, List.length_append, List.length_cons, List.length_nil] <;> omega) (h _ ?_ ?_)
  · refine ⟨hge, hnt, vs.setIfInBounds 1 (.ref h₁.objs.size), oe.slots, ?_, by simpa using hsz, .inr ⟨h₁.objs.size, _, _, by simp [hsz], by rw [hs₁.1]; exact hlo, hfree _ (by rw [hs₁.1]; exact Nat.le_refl _), hTe,
      Heap.get?_update_self _ hT₃ (Obj.isFreed_of_fields (Obj.data_mapFields rfl _)), Obj.data_mapFields rfl _, by first | (simp; done) | (rcases hpl with rfl | ⟨_, _, _, _, _, _, _, rfl⟩ <;> simp)⟩⟩
    rw [Heap.get?_update_other _ _ hTe, he₃]
    obtain ⟨c, d, dt, sl⟩ := oe
    dsimp only at hcl hod hd
    subst hcl hod hd
    rfl
  · have keep : ∀ b o, b ≠ e → h₁.get? b = some o →
        (((h₁.push { cls := .type "traceback", dict := none, data := .fields ([head, .ref L, .none, rawInt L, .none] ++ (if pl.isEmpty then List.replicate 6 Value.none else pl)).toArray }).update e (Obj.mapFields (·.setIfInBounds 1 (Value.ref h₁.objs.size)))).update h₁.objs.size
          (Obj.mapFields (·.setIfInBounds 3 ((none : Option Addr).elim Value.none fun f => rawInt f)))).get? b = some o := fun b o hbe hb => by
      have hbT : h₁.objs.size ≠ b := Nat.ne_of_gt (Heap.lt_size hb)
      rw [Heap.get?_update_other _ _ hbT, Heap.get?_update_other _ _ (Ne.symm hbe)]
      exact Heap.get?_push_of_some _ hb
    refine ⟨fun b o hb hx hnf => keep b o ?_ ((hs₁.2.1 b hnf).trans hb), fun b o hb hm => ?_⟩
    · rintro rfl
      rcases hx with hx | hx
      · exact absurd (Nat.lt_of_lt_of_le hx hge) (Nat.lt_irrefl _)
      · exact hx hnt
    · obtain ⟨sl, hs⟩ := hs₁.2.2 b o hb
      exact ⟨sl, keep b _ (fun z => hene (z ▸ hm)) hs⟩
/-- an error passes a frame (the frame that it leaves, or where it is caught) -/
theorem fly_pass {Q : Unit → Shared → Prop} (hfr : A.frames = some (env :: outer)) (hl : s.heap.FunFrames base (env :: outer)) (hf : env.frame = some L) (hlo : lo ≤ s.heap.objs.size) (hfree : ∀ b, s.heap.objs.size ≤ b → H b = none)
    (F : Fly lo H s.heap e C od) (h : ∀ h', Fly lo H h' e C od → Past lo H ((env :: outer).filterMap (·.frame)) s.heap h' → Q () { s with heap := h' }) :
    wpAny M A (noteFrame (.ref e) env) (fun _ s' => wpAny M A (setFlight (.ref e) none) Q E s') E s := by
  obtain ⟨hge, hnt, vs, sl, he, hsz, h3⟩ := F
  unfold noteFrame
  simp only [hf]
  rcases h3 with h3 | ⟨T, oT, ts, h1, hTlo, hTn, hTe, hT, hdT, h3⟩
  · refine wpAny_bind (wpAny_field he rfl h3 ?_)
    rw [if_neg (by decide)]
    exact fly_entry hfr hl hf hlo hfree hge hnt he rfl rfl rfl hsz h
  · refine wpAny_bind (wpAny_field he rfl h1 ?_)
    rw [if_pos (show (Value.ref T != Value.none) = true from by simp)]
    refine wpAny_bind (wpAny_field hT hdT h3 ?_)
    rw [if_neg (show ¬ ((Value.none == rawInt L) = true) from by simp [rawInt])]
    refine wpAny_bind (wpAny_setField hT hdT (Array.getElem?_eq_some_iff.mp h3).1 ?_)
    have other : ∀ b, b ≠ T → (s.heap.update T (Obj.mapFields (·.setIfInBounds 3 Value.none))).get? b = s.heap.get? b := fun b hb => Heap.get?_update_other _ _ (Ne.symm hb)
    have noRecord : ∀ b o, s.heap.get? b = some o → (∀ vs, o.data ≠ .fields vs) → b ≠ T := fun b o hb hnf q => by
      rw [q, hT] at hb; injection hb with hb; subst hb; exact hnf ts hdT
    have hsize : (s.heap.update T (Obj.mapFields (·.setIfInBounds 3 Value.none))).objs.size = s.heap.objs.size := Heap.size_after_update ..
    refine fly_entry (s := { s with heap := s.heap.update T (Obj.mapFields (·.setIfInBounds 3 Value.none)) }) hfr (hl.of_keeps fun b o hb hnf => ⟨o, (other b (noRecord b o hb hnf)).trans hb, rfl⟩) hf (by show lo ≤ _; rw [hsize]; exact hlo) (fun b hb => hfree b (by rw [← hsize]; exact hb)) hge hnt ((other e (Ne.symm hTe)).trans he) rfl rfl rfl hsz fun h' F' P => h h' F' ⟨fun b o hb hx hn => P.keep b o ((other b ?_).trans hb) hx hn, fun b o hb hm => P.slot b o ((other b ?_).trans hb) hm⟩
    · rintro rfl
      rcases hx with hx | hx
      · exact absurd (Nat.lt_of_lt_of_le hx hTlo) (Nat.lt_irrefl _)
      · exact hx hTn
    · rintro rfl
      obtain ⟨_, o', ho', hnf⟩ := hl.mem hm
      rw [hT] at ho'; injection ho' with ho'; subst ho'
      exact hnf ts hdT
end
end L2

set_option Elab.async false
set_option linter.all false
set_option maxRecDepth 100000
set_option maxHeartbeats 4000000
namespace L2
open PySem PySem.Spec PyProof.Rows
/-- an error lies behind a call -/
def CXe (P : Program) (w : World) : CXT := fun outer H s E ev s' => ∃ e C od H', ev = .ref e ∧ s'.os = s.os ∧ AllBare s'.gens ∧ Un (frs outer) [] H H' s.heap s'.heap ∧ HOk P w H' s'.heap ∧ Fly s.heap.objs.size H' s'.heap e C od ∧ E (.ref C) od H'
/-- what the code wants of errors takes those of E -/
def Takes (X : Cx) (E : XK) : Prop := ∀ (pins : List (Addr × Obj)) (σ : St) (H : Hp) (s : Shared) (e C : Addr) (od : Option Addr), Inv X pins σ H s → Fly X.s₀.heap.objs.size H s.heap e C od → E (.ref C) od H → X.xe (.ref e) s
theorem passE {X : Cx} {E : XK} (hT : Takes X E) : Passes (CXe X.prog X.w) X E := fun pins σ H s ev s' I h => by
  obtain ⟨e, C, od, H', rfl, hos, bare, un, hok, F, hE⟩ := h
  exact hT pins σ H' s' e C od (I.call' hos un hok bare fun b z => absurd z (by simp)) (F.low I.sz) hE
section
variable {P : Program} {w : World} {K : PySem.W.Frag} {mg : Str → Option Value} {base : Heap} {N : List Str} {qual : Str} {scope : Scope} {f : Addr} {cd : Value} {A : Around} {outer : List Env} {s : Shared} {H : Hp} {E : XK}
theorem HOk.past {lo : Nat} {H : Hp} {fs : List Addr} {h h' : Heap} (x : HOk P w H h) (p : Past lo H fs h h') (hf : ∀ b ∈ fs, H b = none) : HOk P w H h' := fun a o e =>
  (x a o e).stay (fun b u hb q => p.keep b u q (.inr (by rcases hb with rfl | hb; (· rw [e]; simp); (· rw [hb]; simp))) fun hm => by
    have := hf b hm
    rcases hb with rfl | hb
    · rw [e] at this; cases this
    · rw [hb] at this; cases this) (fun _ q => q) fun _ _ q => q
/-- an error leaves a def -/
theorem takes_fn : Takes (cxOf (CXe P w) P w K mg base N qual scope f cd A outer s H E) E := by
  intro pins σ H1 s1 e C od I F hE
  show wpAny (model P w) _ («leaving» _ (.ref e)) (fun _ s'' => CXe P w outer H s E (.ref e) s'') (fun e' s'' => CXe P w outer H s E e' s'') s1
  unfold «leaving»
  have hfree : ∀ b, s1.heap.objs.size ≤ b → H1 b = none := fun b hb => I.hok.fresh hb
  refine wpAny_bind (fly_pass (lo := s.heap.objs.size) (H := H1) (base := base) (outer := outer) I.ok.frames I.stack rfl I.sz hfree F fun h' F' p => ?_)
  have hfr := I.stkFree
  have notin : ∀ b o, s.heap.get? b = some o → b ∉ frs outer → b ∉ (envOfC qual scope s.heap.objs.size f cd :: outer).filterMap (·.frame) := fun b o hb hn hm => by
    rcases List.mem_cons.mp (show b ∈ s.heap.objs.size :: frs outer from hm) with z | z
    · exact absurd (Heap.lt_size hb) (by rw [z]; exact Nat.lt_irrefl _)
    · exact hn z
  refine ⟨e, C, od, H1, rfl, I.os, I.bare, ?_, I.hok.past p hfr, F', hE⟩
  have u := I.base
  refine ⟨fun b o hb n hbf hx => ?_, fun b o hb n hbf hx => ?_, fun b o hb n hx => u.free b o hb n hx, fun b o hb hx => ?_, u.tups, u.frzs, u.tbls⟩
  · exact p.keep b o (u.keep b o hb n hbf hx) (.inl (Heap.lt_size hb)) (notin b o hb hbf)
  · obtain ⟨sl, e1⟩ := u.slot b o hb n hbf hx
    obtain ⟨sl', e2⟩ := p.slot b _ e1 (show b ∈ s.heap.objs.size :: frs outer from List.mem_cons_of_mem _ hbf)
    exact ⟨sl', e2⟩
  · obtain ⟨o', e1⟩ := u.there b o hb hx
    by_cases hm : b ∈ (envOfC qual scope s.heap.objs.size f cd :: outer).filterMap (·.frame)
    · obtain ⟨sl, e2⟩ := p.slot b o' e1 hm
      exact ⟨_, e2⟩
    · exact ⟨o', p.keep b o' e1 (.inl (Heap.lt_size hb)) hm⟩
/-- THE RULE for a def that may raise -/
theorem Fun.okE {x qual : Str} {st : Stmt} {f : Addr} {fd : FuncData} {N ps : List Str} {k : Nat} {sp : Sp} (F : Fun K x qual st f fd) (S : FnScope N ps (defScope st)) (len : ∀ vs H Q E, sp vs H Q E → vs.length = ps.length)
    (hbody : ∀ (cdv : Value) (A : Around) (outer : List Env) (s : Shared) (H : Hp) (vs : List V) (Q : VK) (E : XK), Room k (A.deeper (envOfC qual (defScope st) s.heap.objs.size f cdv)) → sp vs H Q E →
      ∃ t, PSs (cxOf (CXe P w) P w K mg base N qual (defScope st) f cdv A outer s H E) (defBody st) t ∧ t { nx := fun _ H' => Q .non H', rt := Q } (start N vs) H) : FnOk P w K mg base (CXe P w) (k + 1) f fd ps sp := by
  obtain ⟨oc, od, kV, doc, pm, an, cdv, ct, osl, rfl, lk, hcd⟩ := F.ex
  exact fn_of lk hcd S len fun A outer s H vs Q E hr hsp => hbody cdv A outer s H vs Q E hr hsp
end
end L2

set_option Elab.async false
set_option linter.all false
set_option maxRecDepth 100000
set_option maxHeartbeats 4000000
namespace L2
open PySem PySem.Spec PyProof.Rows
open PySem.W (Looks looks_findIn looks_typeIn InitBack bind_fn findIn clsIn specialIn readsIn findCls keepIn isFn typeIn InstAt)
section
variable {prog : Program} {w : World} {A : Around} {R : Result → Shared → Prop} {h : Heap} {g : Array GenState} {d : Drawn} {t : Nat} {os : OsState}
variable {nm q : Str} {C CB N : Addr} {bs : List Value} {hdct : Bool} {sn : List Str} {sub : List Value} {ab : Bool} {col : Option Bool} {dd : Option Addr} {k0 k1 k2 k3 k5 : Option Value}
theorem chk_new {M : Model} {E : Value → Shared → Prop} {rest : List Value} {Q : Unit → Shared → Prop} (hC : h.get? C = some (excClassObj nm q C N bs (bmX CB) hdct sn sub ab col dd k0 k1 k2 k3 k5 "ValueError.__new__"))
    (hq : Q () ⟨h, g, d, t, os⟩) : wpAny M A (checkBuiltinCall "ValueError.__new__" ⟨.ref C :: rest, []⟩) Q E ⟨h, g, d, t, os⟩ := by
  have F := PySem.F.excBase_ValueError
  have hcont : (Value.ref C :: bmX CB).contains (.type "ValueError") = true := rfl
  have hstar := F.noStar
  simp only [checkBuiltinCall, F.newKind, F.newSplit, F.newRow]
  repeat (first | refine wpAny_loadPart_at hC ?_ | (refine wpAny_isSubtype_exc hC ?_; rw [hcont]) | refine wpAny_staticBase_exc hC ?_ | refine wpAny_madeBy_exc hC ?_ | simp only [bne_self_eq_false, Bool.false_eq_true, if_false] | wp_step)
  exact hq
theorem run_new {rest : List Value} (hC : h.get? C = some (excClassObj nm q C N bs (bmX CB) hdct sn sub ab col dd k0 k1 k2 k3 k5 "ValueError.__new__"))
    (hq : R (.ok (.ret (.ref (h.objs.size + 1)))) ⟨(h.push { cls := .type "tuple", data := .seq rest.toArray }).push
      { cls := .ref C, data := .fields #[.ref h.objs.size, .none, .none, .none, .bool false, .none] }, g, d, t, os⟩) (hrest : rest.length ≤ sizeLine := by size_fits) :
    codeAny (model prog w) A (.builtin "ValueError.__new__" ⟨.ref C :: rest, []⟩) R ⟨h, g, d, t, os⟩ := by
  have F := PySem.F.excBase_ValueError
  have hends := F.ends
  have hcB : (Value.ref C :: bmX CB).contains (.type "ValueError") = true := rfl
  have hcA : (Value.ref C :: bmX CB).contains (.type "AttributeError") = false := rfl
  have hcN : (Value.ref C :: bmX CB).contains (.type "NameError") = false := rfl
  refine codeAny_builtinAt F.entry ?_
  unfold Builtin.«BaseException.__new__»
  refine PySem.wpAt_bind ?_
  show PySem.wpAt _ _ _ (PySem.stack >>= _) _ _ _
  refine PySem.wpAt_bind (PySem.wpAt_stack fun p below => PySem.wpAt_of_wpAny ?_)
  wp_walk
  refine PySem.wpAt_of_wpAny ?_
  rw [F.owner]
  repeat (first | with_reducible refine wpAny_madeHere_exc F.canon hC ?_ | with_reducible refine wpAny_loadPart_at hC ?_ | (with_reducible refine wpAny_isSubtype_exc hC ?_; first | rw [hcB] | rw [hcA] | rw [hcN]) | wp_step)
  show R _ _
  rw [Heap.size_push]
  exact hq
theorem xmk_type {rest : List Value} {init : Value} {A' : Around} (hC : h.get? C = some (excClassObj nm q C N bs (bmX CB) hdct sn sub ab col dd k0 k1 k2 k3 k5 "ValueError.__new__"))
    (hi : Looks (model prog w) h (typeLookup (.ref C) "__init__") (some init)) (hb : ∀ self, Looks (model prog w) h (bindSpecial init self) (init, [self])) (hrest : rest.length ≤ sizeLine)
    (hq : codeAny (model prog w) A' (.call init ⟨.ref (h.objs.size + 1) :: rest, []⟩) (InitBack (h.objs.size + 1) R) ⟨(h.push (tupObj rest)).push (excObj C h.objs.size), g, d, t, os⟩) :
    wpAny (model prog w) A' (Builtin.«type.__call__» ⟨.ref C :: rest, []⟩) (fun fin s' => match fin with | .done f => R (.ok f) s' | .again c' => c'.quiet = true ∧ codeAny (model prog w) A c' R s') (fun e s' => R (.error e) s') ⟨h, g, d, t, os⟩ := by
  have F := PySem.F.excBase_ValueError
  repeat (first | with_reducible refine wpAny_loadPart_at hC ?_ | with_reducible refine wpAny_madeBy_exc hC ?_ | wp_step)
  refine codeAny_call_builtin_code (Code.quiet_builtin _ F.quiet) (chk_new hC ?_)
  refine run_new hC ?_ hrest
  show wpAny _ _ _ _ _ _
  have k : ∀ b o, h.get? b = some o → ((h.push (tupObj rest)).push (excObj C h.objs.size)).get? b = some o := fun b o e => Heap.get?_push_of_some _ (Heap.get?_push_of_some _ e)
  have hC₁ := Heap.get?_push_of_some { cls := .ref C, data := .fields #[.ref h.objs.size, .none, .none, .none, .bool false, .none] }
    (Heap.get?_push_of_some { cls := .type "tuple", data := .seq rest.toArray } hC)
  have hget : ((h.push { cls := .type "tuple", data := .seq rest.toArray }).push { cls := .ref C, data := .fields #[.ref h.objs.size, .none, .none, .none, .bool false, .none] }).get? (h.objs.size + 1) = some { cls := .ref C, data := .fields #[.ref h.objs.size, .none, .none, .none, .bool false, .none] } := by heap_get
  have hcC : (Value.ref C :: bmX CB).contains (.ref C) = true := by simp
  have i1 := hi.keeps k
  have b1 := (hb (.ref (h.objs.size + 1))).keeps k
  unfold isInstance
  repeat (first | with_reducible refine wpAny_loadPart_at hget ?_ | (with_reducible refine wpAny_isSubtype_exc hC₁ ?_; rw [hcC]) | wp_step)
  show wpAny _ _ (typeLookup (.ref C) _) _ _ _
  refine i1.at ?_
  refine wpAny_holding (wpAny_bind (b1.at ?_))
  refine wpAny_bind (wpAny_call (codeAny_mono hq fun r s' z => ?_))
  rcases r with e | (v | _ | _ | _) <;> first | exact z | exact z.elim | skip
  obtain ⟨rfl, z⟩ := z
  wp_walk
  exact z
/-- C(..) of an own error class -/
theorem xmk_core {rest : List Value} {init : Value} (hC : h.get? C = some (excClassObj nm q C N bs (bmX CB) hdct sn sub ab col dd k0 k1 k2 k3 k5 "ValueError.__new__"))
    (hi : Looks (model prog w) h (typeLookup (.ref C) "__init__") (some init)) (hb : ∀ self, Looks (model prog w) h (bindSpecial init self) (init, [self])) (hrest : rest.length ≤ sizeLine)
    (hq : codeAny (model prog w) (A.under (.builtin "type.__call__" ⟨.ref C :: rest, []⟩)) (.call init ⟨.ref (h.objs.size + 1) :: rest, []⟩) (InitBack (h.objs.size + 1) R) ⟨(h.push (tupObj rest)).push (excObj C h.objs.size), g, d, t, os⟩) :
    codeAny (model prog w) A (.call (.ref C) ⟨rest, []⟩) R ⟨h, g, d, t, os⟩ := by
  have f1 := tc_lookup
  have f2 := PySem.tc_bind (.ref C)
  have hT : (⟨h, g, d, t, os⟩ : Shared).TypeIs (.ref C) "type" := ⟨_, hC, rfl⟩
  refine codeAny_of_tree ?_
  show wpAny _ _ (callAny (.ref C) _) _ _ _
  repeat (any_goals (first | assumption | with_reducible refine wpAny_loadPart_at hC ?_ | wp_step))
  refine ⟨rfl, ?_⟩
  exact codeAny_call_builtin_at (Code.quiet_builtin _ (by decide +kernel)) entry_typeCall (wpAny_check_type_call_sub hC (xmk_type hC hi hb hrest hq))
/-- raise of an error that was made on the spot -/
theorem xraise_stmt {M : Model} {E : Value → Shared → Prop} {s : Shared} {env : Env} {x : Expr} {pos : Pos} {Q : Flow → Shared → Prop} (hh : A.handled = none)
    (h : wpAny M A (eval x env) (fun v s₁ => ∃ e od t, v = .ref e ∧ s₁.heap.get? C = some (excClassObj nm q C N bs (bmX CB) hdct sn sub ab col dd k0 k1 k2 k3 k5 "ValueError.__new__") ∧
      s₁.heap.get? e = some { cls := .ref C, dict := od, data := .fields #[.ref t, .none, .none, .none, .bool false, .none] } ∧ E (.ref e) s₁) E s) :
    wpAny M A (exec (.Raise (some x) none pos) env) Q E s := by
  have key : wpAny M A (raiseStmt env (some (do let v ← eval x env; standAt pos; pure v)) none) Q E s := by
    have hcB : (Value.ref C :: bmX CB).contains (.type "BaseException") = true := rfl
    unfold raiseStmt
    refine wpAny_bind (wpAny_bind (wpAny_mono h (fun v s₁ h₁ => wpAny_bind (wpAny_standAt (wpAny_pure ?_))) fun _ _ x => x))
    obtain ⟨e, od, t, rfl, hC, he, hE⟩ := h₁
    obtain ⟨hp, g, d, tk, os⟩ := s₁
    repeat (first | with_reducible refine wpAny_loadPart_at he ?_ | with_reducible refine wpAny_loadPart_at hC ?_ | (with_reducible refine wpAny_isSubtype_exc hC ?_; rw [hcB]) | wp_step)
    exact wpAny_raiseNew_none hh hE
  rw [arm_exec_Raise]
  exact wpAny_bind (wpAny_standAt key)
end
end L2

set_option Elab.async false
set_option linter.all false
set_option maxRecDepth 100000
set_option maxHeartbeats 4000000
namespace L2
open PySem PySem.Spec PyProof.Rows
open PySem.W (Looks looks_findIn looks_typeIn InitBack bind_fn findIn clsIn specialIn readsIn findCls keepIn isFn typeIn InstAt)
/-- an own error class C under BandError (at CB) -/
structure XUnder (K : PySem.W.Frag) (C CB : Addr) (nm : Str) : Prop where
  lk : ∃ (q : Str) (N : Addr) (bs : List Value) (sn : List Str) (sub : List Value) (ab : Bool) (col : Option Bool) (dd : Option Addr) (k0 k1 k2 k3 k5 : Option Value),
    K.lookup C = some (excClassObj nm q C N bs (bmX CB) true sn sub ab col dd k0 k1 k2 k3 k5 "ValueError.__new__")
  sa : findIn K (.ref C) "__setattr__" = some (some (.builtin "object.__setattr__"))
  ga : findIn K (.ref C) "__getattribute__" = some (some (.builtin "BaseException.__getattribute__"))
  gh : findIn K (.ref C) "__getattr__" = some none
  kp : keepIn K (.ref C) = true
/-- BandError -/
structure XBase (K : PySem.W.Frag) (CB : Addr) : Prop where
  sp : specialIn K (.ref CB) "__getattribute__" = some (some (.builtin "type.__getattribute__"))
  rd : readsIn K CB (.type "type") = true
  fc : findCls K (.ref CB) (.type "type") "__init__" = some (.val (.builtin "ValueError.__init__"))
/-- a new error, without and with an own dict -/
def XN (x C : Addr) : HO := .ext fun h => ∃ t, h.get? x = some (excObj C t)
abbrev excObjD (C d t : Addr) : Obj := { cls := .ref C, dict := some d, data := .fields #[.ref t, .none, .none, .none, .bool false, .none] }
def XD (x C d : Addr) : HO := .ext fun h => ∃ t, h.get? x = some (excObjD C d t)
section
variable {P : Program} {w : World} {H : Hp} {h : Heap} {x C d t : Addr}
theorem okXN (e : h.get? x = some (excObj C t)) : ObjOk P w H h x (XN x C) := ⟨⟨t, e⟩, ⟨_, e⟩, fun h1 h2 ⟨t', e'⟩ k => ⟨t', k _ e'⟩⟩
theorem okXD (e : h.get? x = some (excObjD C d t)) : ObjOk P w H h x (XD x C d) := ⟨⟨t, e⟩, ⟨_, e⟩, fun h1 h2 ⟨t', e'⟩ k => ⟨t', k _ e'⟩⟩
end
theorem upd_id {H : Hp} {x : Addr} {o : HO} (h : H x = some o) : upd H x o = H := by
  funext b
  unfold upd
  split
  · rename_i e; rw [e, h]
  · rfl
/-- what is tracked but x -/
def del (H : Hp) (x : Addr) : Hp := fun b => if b = x then none else H b
theorem del_same {H : Hp} {x : Addr} : del H x x = none := if_pos rfl
theorem del_ne {H : Hp} {x b : Addr} (h : b ≠ x) : del H x b = H b := if_neg h
theorem del_upd {H : Hp} {x : Addr} {o : HO} (h : H x = none) : del (upd H x o) x = H := by
  funext b
  by_cases e : b = x
  · rw [e, del_same, h]
  · rw [del_ne e, upd_ne e]
theorem del_upd_ne {H : Hp} {x d : Addr} {o : HO} (h : d ≠ x) : del (upd H d o) x = upd (del H x) d o := by
  funext b
  by_cases e : b = x
  · subst e
    rw [del_same, upd_ne (Ne.symm h), del_same]
  · rw [del_ne e]
    by_cases e2 : b = d
    · subst e2; rw [upd_same, upd_same]
    · rw [upd_ne e2, upd_ne e2, del_ne e]
theorem del_upd_same {H : Hp} {x : Addr} {o : HO} : del (upd H x o) x = del H x := by
  funext b
  by_cases e : b = x
  · rw [e, del_same, del_same]
  · rw [del_ne e, del_ne e, upd_ne e]
section
variable {X : Cx} {pins : List (Addr × Obj)} {σ : St} {H : Hp} {s : Shared} {x : Addr} {φ : Heap → Prop}
/-- a thing is no longer tracked -/
theorem Inv.del (I : Inv X pins σ H s) (hx : H x = some (.ext φ)) : Inv X pins σ (L2.del H x) s := by
  have ne : ∀ {b : Addr} {o : HO}, H b = some o → (∀ ψ, o ≠ .ext ψ) → b ≠ x := fun e n z => by rw [z, hx] at e; exact n φ (Option.some.inj e).symm
  have nn : ∀ {b : Addr}, H b = none → L2.del H x b = none := fun {b} e => by
    by_cases z : b = x
    · rw [z]; exact del_same
    · rw [del_ne z]; exact e
  have u := I.base
  refine ⟨I.ok, I.os, I.bare, ⟨u.keep, u.slot, fun b o q n hx' => nn (u.free b o q n hx'), u.there, fun b xs q => ?_, fun b o v q => ?_, fun b ps q => ?_⟩, I.loc, I.cell, nn I.free, fun y c e => nn (I.freeC y c e), fun p hp => ?_, fun a o e => ?_, I.len⟩
  · have e := u.tups b xs q
    rw [del_ne (ne e fun ψ z => by cases z)]; exact e
  · have e := u.frzs b o v q
    rw [del_ne (ne e fun ψ z => by cases z)]; exact e
  · obtain ⟨m, e⟩ := u.tbls b ps q
    exact ⟨m, by rw [del_ne (ne e fun ψ z => by cases z)]; exact e⟩
  · obtain ⟨a1, a2, a3⟩ := I.pin p hp
    exact ⟨a1, nn a2, a3⟩
  · have e' : H a = some o := by
      by_cases z : a = x
      · rw [z, del_same] at e; cases e
      · rw [del_ne z] at e; exact e
    refine (I.hok a o e').stay (fun b u _ q => q) (fun b q => ?_) fun b xs q => ?_
    · rw [del_ne (ne q fun ψ z => by cases z)]; exact q
    · rw [del_ne (ne q fun ψ z => by cases z)]; exact q
end
/-! ### an error's own __init__ -/
def tBInit (K : PySem.W.Frag) (CB : Addr) (t : TA) : TE := fun σ H Q => t σ H fun vs H1 => ∃ x C nm m, vs = [.ref x, m] ∧ H1 x = some (XN x C) ∧ XUnder K C CB nm ∧ Q .non H1
section
variable {X : Cx} {CB C f : Addr} {p pos apos cpos : Pos} {e e2 : Expr} {es : List Expr} {t : TA} {nmB name : Str} {ta tv : TE} {o value : Expr} {pos' : Pos}
/-- BandError.__init__(self, text) -/
theorem pe_binit {pl : Sem Bool} (hg : Gl X nmB) (hm : X.mg nmB = some (.ref CB)) (B : XBase X.K CB) (ha : PA X [e, e2] t) (hdb : (nmB == ("__debug__" : Str)) = false := by decide)
    (he : starEach [e, e2] X.env = (false, eval e X.env) :: starEach [e2] X.env := by rfl) (hpl : (backTo pos (starEach [e2] X.env)).any (·.1) = false := by rfl)
    (ht : eval (.Call (.Attribute (.Name nmB p) "__init__" apos) [e, e2] [] pos) X.env = (do
      let ov ← eval (.Name nmB p) X.env
      standAt apos.atName
      let (f, first) ← holding [ov] (getMethod ov "__init__" pl)
      callWith pos f first (backTo pos (starEach [e, e2] X.env)) (backToKw pos (keywordEach [] X.env))) := by rfl) :
    PE X (.Call (.Attribute (.Name nmB p) "__init__" apos) [e, e2] [] pos) (tBInit X.K CB t) := by
  intro pins s σ H Q I h
  refine PySem.W.methodCall_KW (pl := pl) (ld_glob I hg hm ?_ hdb) ht
  refine PySem.W.method_cls I.kIn B.sp (PySem.W.cls_value I.kIn B.rd B.fc rfl ?_)
  refine PyProof.Rows.callWith_builtin1 (thn (ha pos pins _ σ H _ (I.tok _) h) fun us s1 ⟨vs, H1, I1, r1, x, C, nm, m, hv, hx, U, q⟩ => ?_) he hpl
  subst hv
  obtain ⟨u1, u2, rfl, r2, r3⟩ := vals2 r1
  cases r2
  obtain ⟨⟨t, ht⟩, _⟩ := I1.hok x _ hx
  obtain ⟨qn, N, bs, sn, sub, ab, col, dd, k0, k1, k2, k3, k5, lk⟩ := U.lk
  refine xinit_call I1.kIn ht lk fun h' t' k ex => ⟨.non, H1, ?_, rfl, q⟩
  have := I1.write (x := x) (e := x) (o := XN x C) (h' := h') (t' := s1.toks) (by rw [hx]; exact True.intro) (.inl rfl) (fun b u hb z => k b u hb z) ⟨_, ex⟩ (okXN ex)
  rw [upd_id hx] at this
  exact this
def sXFld (K : PySem.W.Frag) (CB : Addr) (ta tv : TE) (name : Str) : TS := fun D σ H => tv σ H fun y H1 => ta σ H1 fun z H2 => ∃ x C nm, z = .ref x ∧ H2 x = some (XN x C) ∧ XUnder K C CB nm ∧ findIn K (.ref C) name = some none ∧
  ∀ d, H2 d = none → D.nx σ (upd (upd H2 d (.xd [(name, y)])) x (XD x C d))
/-- self.name = value, the first attribute of a new error -/
theorem ps_xfld (ha : PE X o ta) (hv : PE X value tv) (hs : swapsWith value (some (.Attribute o name pos')) pos.line X.env = pure false) : PS X (.Assign [.Attribute o name pos'] value pos) (sXFld X.K CB ta tv name) := by
  intro pins s σ H D I h
  refine plainObj_wpAny_Assign_Attribute (thn (hv pins s σ H _ I h) fun u s1 ⟨y, H1, I1, ry, q⟩ => thn (ha pins s1 σ H1 _ I1 q) fun ov s2 ⟨z, H2, I2, rx, x, C, nm, ez, hx, U, hn, q2⟩ => ?_) hs
  subst ez
  obtain rfl : ov = Value.ref x := rx
  obtain ⟨⟨t, ht⟩, _⟩ := I2.hok x _ hx
  obtain ⟨qn, N, bs, sn, sub, ab, col, dd, k0, k1, k2, k3, k5, lk⟩ := U.lk
  refine xset_new (CB := CB) I2.kIn ht (cd := { name := nm, bases := bs, mro := .ref C :: bmX CB, ns := N, qualname := qn, hasDict := true, slotNames := sn, subclasses := sub, abstract := ab, collection := col, hasDel := false }) (by unfold clsIn; rw [lk]) rfl rfl hn U.sa fun h' d tk hd k ex ns => ⟨σ, _, ?_, q2 d (I2.hok.fresh hd)⟩
  have hdx : d ≠ x := fun z => by rw [z] at hd; exact absurd (Nat.lt_of_lt_of_le (I2.hok.lt hx) hd) (Nat.lt_irrefl _)
  have hd0 := I2.hok.fresh hd
  -- by hand: both at once
  have un : Un (frs X.stack) [] H2 (upd (upd H2 d (.xd [(name, y)])) x (XD x C d)) s2.heap h' := by
    have nx : ∀ {b : Addr} {o : HO}, H2 b = some o → (∀ ψ, o ≠ .ext ψ) → b ≠ x := fun e n z => by rw [z, hx] at e; exact n _ (Option.some.inj e).symm
    have xs : ∀ {b : Addr}, H2 b = none → b ≠ x := fun e z => by rw [z, hx] at e; cases e
    refine ⟨fun b o q n _ _ => k b o (xs n) q, fun b o q n _ _ => ⟨o.slots, k b o (xs n) q⟩, fun b o q n _ => ?_, fun b o q _ => ?_, fun b vs q => ?_, fun b o v q => ?_, fun b ps q => ?_⟩
    · rw [upd_ne (xs n), upd_ne (fun z => by rw [z] at q; exact absurd (Nat.lt_of_lt_of_le (Heap.lt_size q) hd) (Nat.lt_irrefl _))]; exact n
    · by_cases z : b = x
      · rw [z]; exact ⟨_, ex⟩
      · exact ⟨o, k b o z q⟩
    · rw [upd_ne (nx q fun ψ z => by cases z), upd_ne (ne_of_none q hd0)]; exact q
    · rw [upd_ne (nx q fun ψ z => by cases z), upd_ne (ne_of_none q hd0)]; exact q
    · exact ⟨#[], by rw [upd_ne (nx q fun ψ z => by cases z), upd_ne (ne_of_none q hd0), q]; simp⟩
  have hok : HOk X.prog X.w (upd (upd H2 d (.xd [(name, y)])) x (XD x C d)) h' := fun a o e => by
    by_cases z : a = x
    · subst z
      rw [upd_same] at e
      cases e
      exact okXD ex
    · rw [upd_ne z] at e
      by_cases z2 : a = d
      · subst z2
        rw [upd_same] at e
        cases e
        refine ⟨_, ns, fun f => ?_⟩
        by_cases hf : f = name
        · have hb : (f == name) = true := beq_iff_eq.mpr hf
          simp only [List.lookup, hb, if_pos hf]
          exact ry
        · have hb : (f == name) = false := beq_eq_false_iff_ne.mpr hf
          simp only [List.lookup, hb, if_neg hf]
          trivial
      · rw [upd_ne z2] at e
        refine (I2.hok a o e).stay (fun b u hb q => k b u ?_ q) (fun b q => ?_) fun b vs q => ?_
        · rintro rfl
          rcases hb with rfl | hb
          · exact z rfl
          · rw [hx] at hb; cases hb
        · have : b ≠ x := fun zz => by rw [zz, hx] at q; cases q
          rw [upd_ne this, upd_ne (ne_of_none q hd0)]; exact q
        · have : b ≠ x := fun zz => by rw [zz, hx] at q; cases q
          rw [upd_ne this, upd_ne (ne_of_none q hd0)]; exact q
  exact I2.call' (s' := { s2 with heap := h', toks := tk }) rfl un hok I2.bare fun b z => absurd z (by simp)
end
end L2

set_option Elab.async false
set_option linter.all false
set_option maxRecDepth 100000
set_option maxHeartbeats 4000000
namespace L2
open PySem PySem.Spec PyProof.Rows
open PySem.W (Looks looks_findIn looks_typeIn InitBack bind_fn findIn clsIn specialIn readsIn findCls keepIn isFn typeIn InstAt)
/-- raise C(..), C with an own __init__ -/
def sRaise (K : PySem.W.Frag) (C : Addr) (sp : Sp) (E : XK) (t : TA) : TS := fun _ σ H => t σ H fun vs H1 => vs.length ≤ sizeLine ∧ ∀ x, H1 x = none →
  sp (.ref x :: vs) (upd H1 x (XN x C)) (fun v H2 => v = .non ∧ ((H2 x = some (XN x C) ∧ E (.ref C) none (del H2 x)) ∨ ∃ d, H2 x = some (XD x C d) ∧ E (.ref C) (some d) (del H2 x))) E0
/-- raise C(..), C without one -/
def sRaise0 (C : Addr) (E : XK) (t : TA) : TS := fun _ σ H => t σ H fun vs H1 => vs.length = 1 ∧ E (.ref C) none H1
section
variable {X : Cx} {CB C f : Addr} {fd : FuncData} {ps : List Str} {sp : Sp} {E : XK} {k : Nat} {p pos cpos : Pos} {e : Expr} {es : List Expr} {t : TA} {x nm : Str}
theorem Inv.newExc {pins : List (Addr × Obj)} {σ : St} {H : Hp} {s : Shared} (I : Inv X pins σ H s) (us : List Value) (C : Addr) :
    Inv X pins σ (upd H (s.heap.objs.size + 1) (XN (s.heap.objs.size + 1) C)) { s with heap := (s.heap.push (tupObj us)).push (excObj C s.heap.objs.size) } := by
  have I1 := I.kept (h' := s.heap.push (tupObj us)) (t' := s.toks) fun b u q => Heap.get?_push_of_some _ q
  refine I1.laid (a := s.heap.objs.size + 1) (t' := s.toks) (fun b u q => Heap.get?_push_of_some _ q) (Nat.le_of_eq (Heap.size_push _ _)) (okXN (t := s.heap.objs.size) ?_)
  have := Heap.get?_push_size (s.heap.push (tupObj us)) (o := excObj C s.heap.objs.size) rfl
  rwa [Heap.size_push] at this
theorem ps_raise (hT : Takes X E) (hc : X.calm = true) (U : XUnder X.K C CB nm) (hi : findIn X.K (.ref C) "__init__" = some (some (.ref f))) (hfn : isFn X.K (.ref f) = true)
    (F : FnOk X.prog X.w X.K X.mg X.base CX0 k f fd ps sp) (hr : Room (k + 1) X.A) (hb : Binds X.K fd ps []) (hg : Gl X x) (hm : X.mg x = some (.ref C)) (ha : PA X (e :: es) t)
    (hdb : (x == ("__debug__" : Str)) = false := by decide) (he : starEach (e :: es) X.env = (false, eval e X.env) :: starEach es X.env := by rfl) (hpl : (backTo cpos (starEach es X.env)).any (·.1) = false := by rfl) :
    PS X (.Raise (some (.Call (.Name x p) (e :: es) [] cpos)) none pos) (sRaise X.K C sp E t) := by
  intro pins s σ H D I h
  obtain ⟨qn, N, bs, sn, sub, ab, col, dd, k0, k1, k2, k3, k5, lk⟩ := U.lk
  refine xraise_stmt (C := C) (CB := CB) (nm := nm) (q := qn) (N := N) (bs := bs) (hdct := true) (sn := sn) (sub := sub) (ab := ab) (col := col) (dd := dd) (k0 := k0) (k1 := k1) (k2 := k2) (k3 := k3) (k5 := k5) (I.ok.hd hc) ?_
  refine wpAny_Call_Name_kw (ld_glob I hg hm ?_ hdb)
  refine PySem.W.callWith_K (h₀ := X.base) I.ok.mod.kin U.kp (thn (ha cpos pins s σ H _ I h) fun us s1 ⟨vs, H1, I1, r, hlen, q⟩ => ⟨I1.kIn, ?_⟩) he hpl
  have hx1 := I1.hok.fresh (Nat.le_succ s1.heap.objs.size)
  have hq := q (s1.heap.objs.size + 1) hx1
  have I2 := Inv.newExc I1 us C
  have r2 : Vals (V.ref (s1.heap.objs.size + 1) :: vs) (Value.ref (s1.heap.objs.size + 1) :: us) := .cons rfl r
  have hl : (Value.ref (s1.heap.objs.size + 1) :: us ++ []).length = ps.length := by
    have e1 := r2.length
    rw [F.len _ _ _ _ hq] at e1
    rw [List.append_nil]
    exact e1.symm
  have hbb := hb _ (Value.ref (s1.heap.objs.size + 1) :: us) I2.kIn hl
  rw [List.append_nil] at hbb
  obtain ⟨hh, g, dr, tk, os⟩ := s1
  refine wpAny_call (xmk_core (I1.kIn _ _ lk) (looks_findIn I1.kIn hi) (fun self => bind_fn I1.kIn self (beq_iff_eq.mp hfn)) (by show us.length ≤ sizeLine; rw [← r.length]; exact hlen) ?_)
  refine codeAny_mono (F.run _ X.stack _ _ ⟨Value.ref (hh.objs.size + 1) :: us, []⟩ (Value.ref (hh.objs.size + 1) :: us) _ _ E0 (hr.make C us []) (I2.env0.make C us []) hbb r2 hq) fun rr s' hq' => ?_
  cases rr with
  | error e => exact False.elim hq'
  | ok fl =>
    cases fl with
    | next => exact False.elim hq'
    | brk => exact False.elim hq'
    | cont => exact False.elim hq'
    | ret u =>
      obtain ⟨v, H', I3, rv, ev, q3⟩ := I2.after hq'
      subst ev
      refine ⟨rv, ?_⟩
      have hge : X.s₀.heap.objs.size ≤ hh.objs.size + 1 := Nat.le_trans I1.sz (Nat.le_succ _)
      rcases q3 with ⟨hx, hE⟩ | ⟨d, hx, hE⟩
      · obtain ⟨⟨tt, ht⟩, _⟩ := I3.hok _ _ hx
        exact ⟨_, none, tt, rfl, I3.kIn _ _ lk, ht, hT pins σ _ s' _ C none (I3.del hx) ⟨hge, del_same, _, _, ht, by show 1 < 6; decide, .inl rfl⟩ hE⟩
      · obtain ⟨⟨tt, ht⟩, _⟩ := I3.hok _ _ hx
        exact ⟨_, some d, tt, rfl, I3.kIn _ _ lk, ht, hT pins σ _ s' _ C (some d) (I3.del hx) ⟨hge, del_same, _, _, ht, by show 1 < 6; decide, .inl rfl⟩ hE⟩
theorem ps_raise0 (hT : Takes X E) (hc : X.calm = true) (U : XUnder X.K C CB nm) (hi : findIn X.K (.ref C) "__init__" = some (some (.builtin "ValueError.__init__"))) (hg : Gl X x) (hm : X.mg x = some (.ref C)) (ha : PA X (e :: es) t)
    (hdb : (x == ("__debug__" : Str)) = false := by decide) (he : starEach (e :: es) X.env = (false, eval e X.env) :: starEach es X.env := by rfl) (hpl : (backTo cpos (starEach es X.env)).any (·.1) = false := by rfl) :
    PS X (.Raise (some (.Call (.Name x p) (e :: es) [] cpos)) none pos) (sRaise0 C E t) := by
  intro pins s σ H D I h
  obtain ⟨qn, N, bs, sn, sub, ab, col, dd, k0, k1, k2, k3, k5, lk⟩ := U.lk
  refine xraise_stmt (C := C) (CB := CB) (nm := nm) (q := qn) (N := N) (bs := bs) (hdct := true) (sn := sn) (sub := sub) (ab := ab) (col := col) (dd := dd) (k0 := k0) (k1 := k1) (k2 := k2) (k3 := k3) (k5 := k5) (I.ok.hd hc) ?_
  refine wpAny_Call_Name_kw (ld_glob I hg hm ?_ hdb)
  refine PySem.W.callWith_K (h₀ := X.base) I.ok.mod.kin U.kp (thn (ha cpos pins s σ H _ I h) fun us s1 ⟨vs, H1, I1, r, hlen, q⟩ => ⟨I1.kIn, ?_⟩) he hpl
  obtain ⟨u, rfl⟩ : ∃ u, us = [u] := by
    have := r.length
    rw [hlen] at this
    exact List.length_eq_one_iff.mp this.symm
  have I2 := Inv.newExc I1 [u] C
  have hx2 : (upd H1 (s1.heap.objs.size + 1) (XN (s1.heap.objs.size + 1) C)) (s1.heap.objs.size + 1) = some (XN (s1.heap.objs.size + 1) C) := upd_same
  have hx1 := I1.hok.fresh (Nat.le_succ s1.heap.objs.size)
  obtain ⟨hh, g, dr, tk, os⟩ := s1
  refine wpAny_call (xmk_core (I1.kIn _ _ lk) (looks_findIn I1.kIn hi) (fun self => Looks.of_pure (PySem.F.excBase_ValueError.init.bind self)) (by show 1 ≤ sizeLine; decide) ?_)
  obtain ⟨⟨tt, ht⟩, _⟩ := I2.hok _ _ hx2
  refine xinit_code I2.kIn ht lk fun h' t' kk ex => ⟨rfl, ?_⟩
  have I3 := I2.write (x := hh.objs.size + 1) (e := hh.objs.size + 1) (o := XN (hh.objs.size + 1) C) (h' := h') (t' := tk) (by rw [hx2]; exact True.intro) (.inl rfl) (fun b u hb z => kk b u hb z) ⟨_, ex⟩ (okXN ex)
  rw [upd_upd] at I3
  have I4 := I3.del (x := hh.objs.size + 1) upd_same
  rw [del_upd hx1] at I4
  have hge : X.s₀.heap.objs.size ≤ hh.objs.size + 1 := Nat.le_trans I1.sz (Nat.le_succ _)
  exact ⟨_, none, t', rfl, I4.kIn _ _ lk, ex, hT pins σ _ _ _ C none I4 ⟨hge, hx1, _, _, ex, by show 1 < 6; decide, .inl rfl⟩ q⟩
end
end L2

set_option Elab.async false
set_option linter.all false
set_option maxRecDepth 100000
set_option maxHeartbeats 4000000
namespace L2
open PySem PySem.Spec PyProof.Rows
/-! ### f-strings -/
abbrev TJ := Str → St → Hp → (Str → Hp → Prop) → Prop
def PJ (X : Cx) (es : List Expr) (t : TJ) : Prop := ∀ (pins : List (Addr × Obj)) (s : Shared) (σ : St) (H : Hp) (acc : Str) (Q : Str → Hp → Prop), Inv X pins σ H s → t acc σ H Q →
  wpAny (model X.prog X.w) X.A (joinParts acc (evalEach es X.env)) (fun u s' => ∃ z H', Inv X pins σ H' s' ∧ (∃ tk, u = .str z tk) ∧ Q z H') X.xe s
section
variable {X : Cx} {e : Expr} {es : List Expr} {te : TE} {t : TJ} {pos : Pos}
def jNil : TJ := fun acc _ H Q => acc.length ≤ sizeLine ∧ Q acc H
theorem pj_nil : PJ X [] jNil := fun pins s σ H acc Q I h => joinParts_nil ⟨acc, H, I.tok _, ⟨_, rfl⟩, h.2⟩ h.1
def jLit (z : Str) (t : TJ) : TJ := fun acc σ H Q => (acc ++ z).length ≤ sizeLine ∧ t (acc ++ z) σ H Q
theorem pj_lit {z : Str} {j : Nat} (h : PJ X es t) : PJ X (.Constant (.str z) j pos :: es) (jLit z t) := fun pins s σ H acc Q I q =>
  joinParts_cons (Calls.Constant_str ⟨q.1, h pins _ σ H _ Q (I.tok _) q.2⟩)
def jInt (te : TE) (t : TJ) : TJ := fun acc σ H Q => te σ H fun v H1 => (∃ i, v = .int i ∧ i.natAbs.log2 < 1920 ∧ (acc ++ (toString i : String)).length ≤ sizeLine ∧ t (acc ++ (toString i : String)) σ H1 Q) ∨ (∃ z, v = .str z ∧ z.length ≤ sizeLine ∧ (acc ++ z).length ≤ sizeLine ∧ t (acc ++ z) σ H1 Q)
theorem pj_int (he : PE X e te) (h : PJ X es t) : PJ X (.FormattedValue e (-1) none pos :: es) (jInt te t) := fun pins s σ H acc Q I q => by
  refine joinParts_cons (FormattedValue_plain (thn (he pins s σ H _ I q) fun v s1 ⟨y, H1, I1, r1, q1⟩ => ?_))
  rcases q1 with ⟨i, rfl, hl, hz, q2⟩ | ⟨z, rfl, hl, hz, q2⟩
  · obtain ⟨tk, rfl⟩ := r1
    exact formatField_int_small hl ⟨hz, h pins _ σ H1 _ Q (I1.tok _) q2⟩
  · obtain ⟨tk, rfl⟩ := r1
    exact formatField_str (fun t' tk' => ⟨hz, h pins _ σ H1 _ Q (I1.tok _) q2⟩) hl
theorem pe_fstr {e2 : Expr} (h : PJ X (e :: e2 :: es) t) : PE X (.JoinedStr (e :: e2 :: es) pos) (fun σ H Q => t Str.empty σ H fun z H' => Q (.str z) H') := fun pins s σ H Q I q =>
  JoinedStr_many (thn (h pins s σ H _ _ I q) fun u s1 ⟨z, H1, I1, r, q1⟩ => ⟨.str z, H1, I1, r, q1⟩)
end
/-! ### within a try: an error's wish goes along -/
abbrev TEx := XK → TE
abbrev TSx := (St → XK) → TS
def XPe (X : Cx) (pins : List (Addr × Obj)) (σ : St) (E : XK) (ev : Value) (s' : Shared) : Prop := ∃ H0 s0, Inv X pins σ H0 s0 ∧ CXe X.prog X.w X.stack H0 s0 E ev s'
def XPs (X : Cx) (pins : List (Addr × Obj)) (E : St → XK) (ev : Value) (s' : Shared) : Prop := ∃ σ, XPe X pins σ (E σ) ev s'
def PEx (X : Cx) (e : Expr) (t : TEx) : Prop := ∀ (pins : List (Addr × Obj)) (s : Shared) (σ : St) (H : Hp) (Q : VK) (E : XK), Inv X pins σ H s → t E σ H Q → wpAny (model X.prog X.w) X.A (eval e X.env) (EP X pins σ Q) (XPe X pins σ E) s
def PSx (X : Cx) (st : Stmt) (t : TSx) : Prop := ∀ (pins : List (Addr × Obj)) (s : Shared) (σ : St) (H : Hp) (D : Ends) (E : St → XK), Inv X pins σ H s → t E D σ H → wpAny (model X.prog X.w) X.A (exec st X.env) (SP X pins D) (XPs X pins E) s
def PSsx (X : Cx) (st : List Stmt) (t : TSx) : Prop := ∀ (pins : List (Addr × Obj)) (s : Shared) (σ : St) (H : Hp) (D : Ends) (E : St → XK), Inv X pins σ H s → t E D σ H → wpAny (model X.prog X.w) X.A (execs st X.env) (SP X pins D) (XPs X pins E) s
section
variable {X : Cx} {k : Nat} {f C : Addr} {fd : FuncData} {ps : List Str} {sp : Sp} {x m : Str} {p pos apos : Pos} {e o : Expr} {es : List Expr} {ta : TE} {t : TA} {st : Stmt} {rest : List Stmt}
theorem noxE {α : Type} {M : Model} {A : Around} {m : Sem α} {Q : α → Shared → Prop} {E : Value → Shared → Prop} {s : Shared} (h : wpAny M A m Q (fun _ _ => False) s) : wpAny M A m Q E s := wpAny_mono h (fun _ _ x => x) fun _ _ z => z.elim
theorem AP.unwish {E : Value → Shared → Prop} {pins : List (Addr × Obj)} {σ : St} {Q : List V → Hp → Prop} {us : List Value} {s' : Shared} (h : AP (X.wish E) pins σ Q us s') : AP X pins σ Q us s' := by
  obtain ⟨vs, H', I, r, q⟩ := h
  exact ⟨vs, H', I.unwish, r, q⟩
def tCallX (sp : Sp) (t : TA) : TEx := fun E σ H Q => t σ H fun vs H1 => sp vs H1 Q E
def tMethX (C : Addr) (m : Str) (sp : Sp) (ta : TE) (t : TA) : TEx := fun E σ H Q => ta σ H fun x H1 => ∃ a dx fs, x = .ref a ∧ H1 a = some (.ins C dx fs) ∧ fs.lookup m = none ∧ t σ H1 fun vs H2 => sp (x :: vs) H2 Q E
def tMakeX (C : Addr) (sp : Sp) (t : TA) : TEx := fun E σ H Q => t σ H fun vs H1 => ∀ x dx, H1 x = none → H1 dx = none → dx ≠ x →
  sp (.ref x :: vs) (upd (upd H1 dx (.own x)) x (.ins C dx [])) (fun v H2 => v = .non ∧ Q (.ref x) H2) E
theorem pex_make (M : Mk X.K C f) (F : FnOk X.prog X.w X.K X.mg X.base (CXe X.prog X.w) k f fd ps sp) (hr : Room (k + 1) X.A) (hg : Gl X x) (hm : X.mg x = some (.ref C)) (hb : Binds X.K fd ps [])
    (ha : PA X.nox (e :: es) t) (hdb : (x == ("__debug__" : Str)) = false := by decide) (he : starEach (e :: es) X.env = (false, eval e X.env) :: starEach es X.env := by rfl) (hpl : (backTo pos (starEach es X.env)).any (·.1) = false := by rfl) :
    PEx X (.Call (.Name x p) (e :: es) [] pos) (tMakeX C sp t) := by
  intro pins s σ H Q E I h
  refine wpAny_Call_Name_kw (ld_glob I hg hm ?_ hdb)
  refine PySem.W.callWith_K (h₀ := X.base) I.ok.mod.kin M.kp (noxE (thn (ha pos pins s σ H _ (I.wish _) h) fun us s1 h1 => ?_)) he hpl
  obtain ⟨vs, H1, I1, r, q⟩ := h1.unwish
  refine ⟨I1.kIn, ?_⟩
  have hq := q (s1.heap.objs.size + 1) s1.heap.objs.size (I1.hok.fresh (Nat.le_succ _)) (I1.hok.fresh (Nat.le_refl _)) (Nat.ne_of_lt (Nat.lt_succ_self _))
  have I2 := Inv.made (C := C) I1
  have r2 : Vals (V.ref (s1.heap.objs.size + 1) :: vs) (Value.ref (s1.heap.objs.size + 1) :: us) := .cons rfl r
  have hl : (Value.ref (s1.heap.objs.size + 1) :: us ++ []).length = ps.length := by
    have e := r2.length
    rw [F.len _ _ _ _ hq] at e
    rw [List.append_nil]
    exact e.symm
  have hbb := hb _ (Value.ref (s1.heap.objs.size + 1) :: us) I2.kIn hl
  rw [List.append_nil] at hbb
  refine wpAny_call (make_map (f := f) I1.kIn M.makes M.init (beq_iff_eq.mp M.fn) (codeAny_mono (F.run _ X.stack _ _ ⟨Value.ref (s1.heap.objs.size + 1) :: us, []⟩ (Value.ref (s1.heap.objs.size + 1) :: us) _ _ E (hr.make C us [])
    (I2.env0.make C us []) hbb r2 hq) fun r s' hq' => ?_))
  cases r with
  | error e => exact ⟨_, _, I2, hq'⟩
  | ok fl =>
    cases fl with
    | ret u =>
      obtain ⟨v, H', I3, rv, ev, q3⟩ := I2.after hq'
      subst ev
      exact ⟨rv, ⟨V.ref (s1.heap.objs.size + 1), H', I3, rfl, q3⟩⟩
    | next => exact False.elim hq'
    | brk => exact False.elim hq'
    | cont => exact False.elim hq'
/-! statements -/
variable {te : TEx} {i : Nat} {pos' : Pos} {tx ty : TSx} {tc : TT} {c : Expr} {a b : List Stmt} {ts : TS}
def xSet (te : TEx) (i : Nat) : TSx := fun E D σ H => te (E σ) σ H fun v H1 => D.nx (σ.set i (some v)) H1
theorem psx_set (hN : X.N.Nodup) (hi : X.N[i]? = some x) (hx : Loc X.env.scope x) (he : PEx X e te) (hs : swapsWith e (some (.Name x pos')) pos.line X.env = pure false := by rfl) (hf : X.fn x = true ∨ X.env.scope.names.lookup x = some .local := by first | exact .inl rfl | exact .inr rfl | assumption) :
    PSx X (.Assign [.Name x pos'] e pos) (xSet te i) := by
  intro pins s σ H D E I h
  refine wpAny_Assign_Name (wpAny_mono (he pins s σ H _ (E σ) I h) (fun v s1 ⟨y, H1, I1, r1, q1⟩ => ?_) fun ev s1 z => ⟨σ, z⟩) hs
  exact store_ok I1 hN hi hx r1 (fun s2 I2 => ⟨_, H1, I2, q1⟩) hf
def xDrop (te : TEx) : TSx := fun E D σ H => te (E σ) σ H fun _ H1 => D.nx σ H1
def xIf (tc : TT) (tx ty : TSx) : TSx := fun E D σ H => tc σ H fun b H1 => if b = true then tx E D σ H1 else ty E D σ H1
theorem pssx_one (h1 : PSx X st tx) : PSsx X [st] tx := by
  intro pins s σ H D E I h
  refine wpAny_execs_cons (wpAny_mono (h1 pins s σ H D E I h) (fun f s1 q => ?_) fun _ _ z => z)
  cases f with
  | next => exact wpAny_execs_nil q
  | ret v => exact q
  | brk => exact q
  | cont => exact q
def xSeq (tx ty : TSx) : TSx := fun E D σ H => tx E { D with nx := ty E D } σ H
end
end L2

set_option Elab.async false
set_option linter.all false
set_option maxRecDepth 100000
set_option maxHeartbeats 4000000
namespace L2
open PySem PySem.Spec PyProof.Rows
section
variable {M : Model} {A : Around} {E : Value → Shared → Prop} {s : Shared} {e C CB : Addr} {od : Option Addr} {lo : Nat} {H : Hp}
theorem fly_flight {Q : Unit → Shared → Prop} (F : Fly lo H s.heap e C od) (h : ∀ h', Fly lo H h' e C od → (∀ b o, s.heap.get? b = some o → (b < lo ∨ H b ≠ none) → h'.get? b = some o) → Q () { s with heap := h' }) :
    wpAny M A (setFlight (.ref e) none) Q E s := by
  obtain ⟨hge, hnt, vs, sl, he, hsz, h3⟩ := F
  unfold setFlight
  rcases h3 with h3 | ⟨T, oT, ts, h1, hTlo, hTn, hTe, hT, hdT, h3⟩
  · refine wpAny_bind (wpAny_field he rfl h3 ?_)
    rw [if_neg (by decide)]
    exact wpAny_pure (h _ ⟨hge, hnt, vs, sl, he, hsz, .inl h3⟩ fun b o q _ => q)
  · have hsz3 : 3 < ts.size := (Array.getElem?_eq_some_iff.mp h3).1
    refine wpAny_bind (wpAny_field he rfl h1 ?_)
    rw [if_pos (show (Value.ref T != Value.none) = true from by simp)]
    refine wpAny_setField hT hdT hsz3 (h _ ⟨hge, hnt, vs, sl, ?_, hsz, .inr ⟨T, _, _, h1, hTlo, hTn, hTe, Heap.get?_update_self _ hT (Obj.isFreed_of_fields (Obj.data_mapFields hdT _)), Obj.data_mapFields hdT _, by simp [hsz3]⟩⟩ fun b o q hb => ?_)
    · exact (Heap.get?_update_other _ _ hTe).trans he
    · refine (Heap.get?_update_other _ _ ?_).trans q
      rintro rfl
      rcases hb with hb | hb
      · exact absurd (Nat.lt_of_lt_of_le hb hTlo) (Nat.lt_irrefl _)
      · exact hb hTn
variable {nm q nmB qB : Str} {N NB : Addr} {bs bsB : List Value} {hdct hdB : Bool} {sn snB : List Str} {sub subB : List Value} {ab abB : Bool} {col colB : Option Bool} {dd ddB : Option Addr} {k0 k1 k2 k3 k5 l0 l1 l2 l3 l5 : Option Value}
theorem xmatch {h : Heap} {g : Array GenState} {d : Drawn} {t : Nat} {os : OsState} {oe : Obj} {Q : Bool → Shared → Prop} (hC : h.get? C = some (excClassObj nm q C N bs (bmX CB) hdct sn sub ab col dd k0 k1 k2 k3 k5 "ValueError.__new__"))
    (hB : h.get? CB = some (excClassObj nmB qB CB NB bsB bmV hdB snB subB abB colB ddB l0 l1 l2 l3 l5 "ValueError.__new__")) (he : h.get? e = some oe) (hcls : oe.cls = .ref C) (hq : Q true ⟨h, g, d, t, os⟩) :
    wpAny M A (excMatches (.ref e) (.ref CB)) Q E ⟨h, g, d, t, os⟩ := by
  have hcB : (Value.ref CB :: bmV).contains (.type "BaseException") = true := rfl
  have hcC : (Value.ref C :: bmX CB).contains (.ref CB) = true := by simp [List.contains_cons]
  have f := tc_notTuple
  unfold excMatches
  repeat (first | (with_reducible refine wpAny_loadPart_at he ?_; rw [hcls]) | with_reducible refine wpAny_loadPart_at hC ?_ | with_reducible refine wpAny_loadPart_at hB ?_ | (with_reducible refine wpAny_isSubtype_exc hC ?_; rw [hcC]) | (with_reducible refine wpAny_isSubtype_exc hB ?_; rw [hcB]) | wp_step)
  exact hq
end
/-- the context of an except suite -/
abbrev Cx.marked (X : Cx) (e : Addr) : Cx := { X with A := X.A.mark (some (.ref e)), calm := false }
section
variable {X : Cx} {pins : List (Addr × Obj)} {σ : St} {H : Hp} {s : Shared} {e : Addr}
theorem Cx.Ok.marked (ok : X.Ok) : (X.marked e).Ok :=
  ⟨ok.mod, ok.kind, ok.glob, ok.blt, ok.above, ok.inj, ok.has, ok.cab, fun z => Bool.noConfusion z, ok.frames, ok.stk, ok.exf, ok.bs, ok.bsz, ok.noex, ok.exfs, ok.funs, ok.frf⟩
theorem Inv.marked (I : Inv X pins σ H s) : Inv (X.marked e) pins σ H s := ⟨I.ok.marked, I.os, I.bare, I.base, I.loc, I.cell, I.free, I.freeC, I.pin, I.hok, I.len⟩
theorem Inv.unmarked (ok : X.Ok) (I : Inv (X.marked e) pins σ H s) : Inv X pins σ H s := ⟨ok, I.os, I.bare, I.base, I.loc, I.cell, I.free, I.freeC, I.pin, I.hok, I.len⟩
/-- an error has passed into this frame -/
theorem Inv.passed {H0 H' : Hp} {s0 s1 : Shared} {h' : Heap} (I0 : Inv X pins σ H0 s0) (hos : s1.os = s0.os) (bare : AllBare s1.gens) (un : Un (frs X.stack) [] H0 H' s0.heap s1.heap) (hok : HOk X.prog X.w H' s1.heap)
    (p : Past s0.heap.objs.size H' (frs X.stack) s1.heap h') (hfr : ∀ b ∈ frs X.stack, H' b = none) : Un (frs X.stack) [] H0 H' s0.heap h' ∧ HOk X.prog X.w H' h' ∧ ∀ tk, Inv X pins σ H' { s1 with heap := h', toks := tk } := by
  have un' : Un (frs X.stack) [] H0 H' s0.heap h' := by
    refine ⟨fun b o hb n hbf hx => p.keep b o (un.keep b o hb n hbf hx) (.inl (Heap.lt_size hb)) hbf, fun b o hb n hbf hx => ?_, un.free, fun b o hb hx => ?_, un.tups, un.frzs, un.tbls⟩
    · obtain ⟨sl, e1⟩ := un.slot b o hb n hbf hx
      obtain ⟨sl', e2⟩ := p.slot b _ e1 hbf
      exact ⟨sl', e2⟩
    · obtain ⟨o', e1⟩ := un.there b o hb hx
      by_cases hm : b ∈ frs X.stack
      · obtain ⟨sl, e2⟩ := p.slot b o' e1 hm
        exact ⟨_, e2⟩
      · exact ⟨o', p.keep b o' e1 (.inl (Heap.lt_size hb)) hm⟩
  have hok' := hok.past p hfr
  exact ⟨un', hok', fun tk => I0.call' (s' := { s1 with heap := h', toks := tk }) hos un' hok' bare fun b z => absurd z (by simp)⟩
/-- an error that was caught -/
def XC (x C : Addr) (od : Option Addr) : HO := .ext fun h => ∃ vs sl, h.get? x = some ⟨.ref C, od, .fields vs, sl⟩
theorem okXC {P : Program} {w : World} {H : Hp} {h : Heap} {x C : Addr} {od : Option Addr} {vs : Array Value} {sl : Array (Option Value)} (e : h.get? x = some ⟨.ref C, od, .fields vs, sl⟩) : ObjOk P w H h x (XC x C od) :=
  ⟨⟨vs, sl, e⟩, ⟨_, e⟩, fun h1 h2 ⟨vs', sl', e'⟩ k => ⟨vs', sl', k _ e'⟩⟩
/-- a thing that is younger than all that the code has is tracked -/
theorem Inv.track {x : Addr} {φ : Heap → Prop} (I : Inv X pins σ H s) (hn : H x = none) (hlo : X.s₀.heap.objs.size ≤ x) (hl : x ≠ X.env.locals) (hc : ∀ y c, X.env.cells.lookup y = some c → c ≠ x) (hp : ∀ p ∈ X.pn ++ pins, p.1 ≠ x) (ok : ObjOk X.prog X.w (upd H x (.ext φ)) s.heap x (.ext φ)) :
    Inv X pins σ (upd H x (.ext φ)) s := by
  have u := I.base
  refine ⟨I.ok, I.os, I.bare, ⟨u.keep, u.slot, fun b o q n hx => ?_, u.there, fun b xs q => ?_, fun b o v q => ?_, fun b ps q => ?_⟩, I.loc, I.cell, by rw [upd_ne (Ne.symm hl)]; exact I.free, fun y c e => by rw [upd_ne (hc y c e)]; exact I.freeC y c e, fun p hpp => ?_, fun a o e => ?_, I.len⟩
  · rw [upd_ne (fun z => by rw [z] at q; exact absurd (Nat.lt_of_lt_of_le (Heap.lt_size q) hlo) (Nat.lt_irrefl _))]; exact u.free b o q n hx
  · have e := u.tups b xs q
    rw [upd_ne (ne_of_none e hn)]; exact e
  · have e := u.frzs b o v q
    rw [upd_ne (ne_of_none e hn)]; exact e
  · obtain ⟨m, e⟩ := u.tbls b ps q
    exact ⟨m, by rw [upd_ne (ne_of_none e hn)]; exact e⟩
  · obtain ⟨a1, a2, a3⟩ := I.pin p hpp
    exact ⟨a1, by rw [upd_ne (hp p hpp)]; exact a2, a3⟩
  · by_cases z : a = x
    · subst z; rw [upd_same] at e; cases e; exact ok
    · rw [upd_ne z] at e
      refine (I.hok a o e).stay (fun b u _ q => q) (fun b q => ?_) fun b xs q => ?_
      · rw [upd_ne (ne_of_none q hn)]; exact q
      · rw [upd_ne (ne_of_none q hn)]; exact q
/-- the name behind 'as' goes -/
theorem Inv.nameGoes {j : Nat} {n : Str} {h' : Heap} {m : Str → Option Value} {v : Option Value} {tk : Nat} (I : Inv X pins σ H s) (hN : X.N.Nodup) (hj : X.N[j]? = some n) (hk : X.env.scope.names.lookup n = some .local)
    (hm : ∃ m, s.heap.Ns X.env.locals m ∧ (∀ (i : Nat) (x : Str) (v : V), X.N[i]? = some x → σ[i]? = some (some v) → Vis X.env.scope x → ∃ u, RelV v u ∧ Look X.env s.heap m x u) ∧ h'.Ns X.env.locals (fun x => if x = n then v else m x))
    (hs : Heap.SameBut X.env.locals s.heap h') : Inv X pins (σ.set j none) H { s with heap := h', toks := tk } := by
  obtain ⟨m, hn, hl, hn'⟩ := hm
  have cne := I.cne
  obtain ⟨oL, _, _, hoL, _⟩ := id hn
  refine ⟨I.ok, I.os, I.bare, ⟨fun b o e n hb hx => ?_, fun b o e n hb hx => ?_, I.base.free, fun b o e hx => ?_, I.base.tups, I.base.frzs, I.base.tbls⟩, ⟨_, hn', fun i y v' e1 e2 e3 => ?_⟩, fun y c e => ?_, I.free, I.freeC, fun p hp => ?_, fun b ob e => ?_, by simpa using I.len⟩
  · exact (hs.2 b (Nat.ne_of_lt (Nat.lt_of_lt_of_le (Heap.lt_size e) I.ok.above))).trans (I.base.keep b o e n hb hx)
  · obtain ⟨sl, e1⟩ := I.base.slot b o e n hb hx
    exact ⟨sl, (hs.2 b (Nat.ne_of_lt (Nat.lt_of_lt_of_le (Heap.lt_size e) I.ok.above))).trans e1⟩
  · obtain ⟨o', e1⟩ := I.base.there b o e hx
    exact ⟨o', (hs.2 b (Nat.ne_of_lt (Nat.lt_of_lt_of_le (Heap.lt_size e) I.ok.above))).trans e1⟩
  · by_cases hij : i = j
    · subst hij
      have : i < σ.length := by rw [I.len]; exact (List.getElem?_eq_some_iff.mp hj).1
      rw [List.getElem?_set_self this] at e2
      cases e2
    · rw [List.getElem?_set_ne (Ne.symm hij)] at e2
      obtain ⟨u', r', q⟩ := hl i y v' e1 e2 e3
      refine ⟨u', r', ?_⟩
      rcases q with ⟨k, e⟩ | ⟨k, c, e, z⟩
      · refine .inl ⟨k, ?_⟩
        have : y ≠ n := fun e => hij (nodup_ix hN e1 (e ▸ hj))
        simp [this, e]
      · exact .inr ⟨k, c, e, z.sameBut hs (cne y c e)⟩
  · obtain ⟨w', z⟩ := I.cell y c e
    exact ⟨w', z.sameBut hs (cne y c e)⟩
  · obtain ⟨e, n, ne, nf, d⟩ := I.pin p hp
    exact ⟨(hs.2 p.1 ne).trans e, n, ne, nf, d⟩
  · refine (I.hok b ob e).stay (fun c w' hc q => (hs.2 c ?_).trans q) (fun _ q => q) fun _ _ q => q
    rintro rfl
    have hfree := I.free
    rcases hc with rfl | hc
    · rw [hfree] at e; cases e
    · rw [hfree] at hc; cases hc
end
end L2

set_option Elab.async false
set_option linter.all false
set_option maxRecDepth 100000
set_option maxHeartbeats 4000000
namespace L2
open PySem PySem.Spec PyProof.Rows
/-- BandError's own object -/
structure XTop (K : PySem.W.Frag) (CB : Addr) (nm : Str) : Prop where
  lk : ∃ (q : Str) (N : Addr) (bs : List Value) (hd : Bool) (sn : List Str) (sub : List Value) (ab : Bool) (col : Option Bool) (dd : Option Addr) (k0 k1 k2 k3 k5 : Option Value),
    K.lookup CB = some (excClassObj nm q CB N bs bmV hd sn sub ab col dd k0 k1 k2 k3 k5 "ValueError.__new__")
/-- try: body / except CB as n: x = n -/
def tTry (K : PySem.W.Frag) (CB : Addr) (tb : TSx) (j i : Nat) : TS := fun D σ H => tb (fun σ' cv od H' => ∃ C nm, cv = .ref C ∧ XUnder K C CB nm ∧ ∀ e, H' e = none → D.nx (((σ'.set j (some (.ref e))).set i (some (.ref e))).set j none) (upd H' e (XC e C od))) D σ H
section
variable {X : Cx} {CB : Addr} {nmB n x nmT : Str} {body : List Stmt} {tb : TSx} {i j : Nat} {p1 p2 p3 p4 hpos pos : Pos}
theorem ps_try (hst : X.stack = X.env :: X.outer ∧ X.env.frame = some X.env.locals) (hb : PSsx X body tb) (hg : Gl X nmB) (hm : X.mg nmB = some (.ref CB)) (TB : XTop X.K CB nmT) (hN : X.N.Nodup) (hj : X.N[j]? = some n) (hi : X.N[i]? = some x)
    (hkn : X.env.scope.names.lookup n = some .local) (hx : Loc X.env.scope x) (hdb : (nmB == ("__debug__" : Str)) = false := by decide) (hdn : (n == ("__debug__" : Str)) = false := by decide) (hcn : (n == ("__classdict__" : Str)) = false := by decide)
    (hf : X.fn x = true ∨ X.env.scope.names.lookup x = some .local := by first | exact .inl rfl | exact .inr rfl | assumption) (hsw : swapsWith (.Name n p3) (some (.Name x p2)) p4.line X.env = pure false := by rfl) :
    PS X (.Try body [.ExceptHandler (some (.Name nmB p1)) (some n) [.Assign [.Name x p2] (.Name n p3) p4] hpos] [] [] pos) (tTry X.K CB tb j i) := by
  intro pins s σ H D I h
  refine wpAny_Try_except (wpAny_mono (hb pins s σ H D _ I h) (fun f s1 q => ?_) fun ev s1 q => ?_)
  · cases f with
    | next => exact wpAny_execs_nil q
    | ret v => exact q
    | brk => exact q
    | cont => exact q
  obtain ⟨σ0, H0, s0, I0, e, C', od, H', rfl, hos, bare, un, hok, F, C, nmx, hC', U, hD⟩ := q
  cases hC'

  have I1 : Inv X pins σ0 H' s1 := I0.call' hos un hok bare fun b z => absurd z (by simp)
  have hfs : (X.env :: X.outer).filterMap (·.frame) = frs X.stack := by rw [hst.1]; rfl
  have hfr := I1.stkFree
  have hlow : s0.heap.objs.size ≤ s1.heap.objs.size := Nat.le_of_not_lt fun z => by
    obtain ⟨hge, _, vs, sl, he, _⟩ := F
    exact absurd (Nat.lt_of_lt_of_le (Nat.lt_of_le_of_lt hge (Heap.lt_size he)) (Nat.le_of_lt z)) (Nat.lt_irrefl _)
  refine fly_pass (lo := s0.heap.objs.size) (H := H') (base := X.base) (outer := X.outer) (by rw [← hst.1]; exact I0.ok.frames) (by rw [← hst.1]; exact I1.stack) hst.2 hlow (fun b hb => hok.fresh hb) F fun h2 F2 p => ?_
  rw [hfs] at p
  obtain ⟨un2, hok2, J2⟩ := I0.passed hos bare un hok p hfr
  have I2 := J2 s1.toks
  -- the clause
  obtain ⟨qC, NC, bsC, snC, subC, abC, colC, ddC, c0, c1, c2, c3, c5, lkC⟩ := U.lk
  obtain ⟨qT, NT, bsT, hdT, snT, subT, abT, colT, ddT, t0, t1, t2, t3, t5, lkB⟩ := TB.lk
  obtain ⟨vs2, sl2, he2, _⟩ := id F2.ob
  refine wpAny_handleBy_cons (codeAny_handlers_test (ld_glob (X := X.marked e) (I2.marked (e := e)) hg hm ?_ hdb)) (by intro z; cases z)
  refine xmatch (I2.kIn _ _ lkC) (I2.kIn _ _ lkB) he2 rfl ?_
  refine codeAny_handlers_suite_as ?_
  refine fly_flight F2 fun h3 F3 k3 => ?_
  have p3' : Past s0.heap.objs.size H' (frs X.stack) h2 h3 := ⟨fun b o q hb _ => k3 b o q hb, fun b o q hb => ⟨o.slots, k3 b o q (.inl ?_)⟩⟩
  rotate_left
  · -- a frame is old
    have : ∃ o, s0.heap.get? b = some o := by
      obtain ⟨_, o, ho, _⟩ := I0.stack.mem hb
      exact ⟨o, ho⟩
    obtain ⟨o, ho⟩ := this
    exact Heap.lt_size ho
  obtain ⟨un3, hok3, J3⟩ := I0.passed (s1 := { s1 with heap := h2 }) hos bare un2 hok2 p3' hfr
  have I3 := J3 s1.toks
  obtain ⟨vs3, sl3, he3, _⟩ := id F3.ob
  have old : ∀ {b : Addr}, b < s0.heap.objs.size → b ≠ e := fun hb z => by rw [z] at hb; exact absurd (Nat.lt_of_lt_of_le hb F.ge) (Nat.lt_irrefl _)
  have I3t : Inv X pins σ0 (upd H' e (XC e C' od)) { s1 with heap := h3 } := I3.track F.nt (Nat.le_trans I0.sz F.ge) (Ne.symm (old I0.lt)) (fun y c hc => old (by
      obtain ⟨v, o, ho, _⟩ := I0.cell y c hc
      exact Heap.lt_size ho)) (fun p hp => old (Heap.lt_size (I0.pin p hp).1)) (okXC he3)
  refine store_ok (v := .ref e) I3t hN hj (.inl hkn) rfl (fun s4 I4 => ?_) (.inr hkn)
  -- x = n
  have hjl : j < σ0.length := by rw [I0.len]; exact (List.getElem?_eq_some_iff.mp hj).1
  have ev := pe_var (X := (X.marked e).nox) (pos := p3) hj (.inl hkn) hdn hcn pins s4 _ (upd H' e (XC e C' od)) (fun v H'' => v = .ref e ∧ H'' = upd H' e (XC e C' od)) ((I4.marked (e := e)).wish _) ⟨.ref e, List.getElem?_set_self hjl, rfl, rfl⟩
  refine wpAny_execs_cons (wpAny_Assign_Name (noxE (thn ev fun v s5 ⟨y, H5, I5, r5, ey, eH⟩ => ?_)) hsw)
  subst ey
  subst eH
  have I5 := (I5.unwish).unmarked I0.ok
  refine store_ok I5 hN hi hx r5 (fun s6 I6 => wpAny_execs_nil ?_) hf
  obtain ⟨m, hn, hl⟩ := id I6.loc
  refine wpAny_nameGoes_keeps hkn hn (by rw [I6.ok.kind]; rfl) fun h7 v7 hn7 hs7 => ?_
  exact ⟨_, _, I6.nameGoes (m := m) (tk := s6.toks + 1) hN hj hkn ⟨m, hn, hl, hn7⟩ hs7, hD e F.nt⟩
end
end L2

set_option Elab.async false
set_option linter.all false
set_option maxRecDepth 100000
set_option maxHeartbeats 4000000
namespace L2
open PySem PySem.Spec PyProof.Rows
open PySem.W (Looks looks_findIn looks_typeIn looks_find looks_hook looks_mroIn findIn clsIn specialIn takesIn mroIn typeIn subIn InstAt KitX kitOne kitCls kia_one findObj findObj_data class_get handed_on handedOut_of)
open Builtin Builtin.ObjectAttr
theorem XUnder.ne {K : PySem.W.Frag} {C D CB CB' : Addr} {nm nm' : Str} (U : XUnder K C CB nm) (U' : XUnder K D CB' nm') (h : ¬ nm = nm') : C ≠ D := fun e => by
  subst e
  obtain ⟨q, N, bs, sn, sub, ab, col, dd, k0, k1, k2, k3, k5, l1⟩ := U.lk
  obtain ⟨q', N', bs', sn', sub', ab', col', dd', l0, l1', l2, l3, l5, l2'⟩ := U'.lk
  rw [l1] at l2'
  have := congrArg (fun o => match o with | some (⟨_, _, .cls cd, _⟩ : Obj) => cd.name | _ => nm) l2'
  exact h this
theorem XUnder.neT {K : PySem.W.Frag} {C CB CB' : Addr} {nm nm' : Str} (U : XUnder K C CB nm) (T : XTop K CB' nm') (h : ¬ nm = nm') : C ≠ CB' := fun e => by
  subst e
  obtain ⟨q, N, bs, sn, sub, ab, col, dd, k0, k1, k2, k3, k5, l1⟩ := U.lk
  obtain ⟨q', N', bs', hd', sn', sub', ab', col', dd', l0, l1', l2, l3, l5, l2'⟩ := T.lk
  rw [l1] at l2'
  have := congrArg (fun o => match o with | some (⟨_, _, .cls cd, _⟩ : Obj) => cd.name | _ => nm) l2'
  exact h this
section
variable {prog : Program} {w : World} {A : Around} {E : Value → Shared → Prop} {s : Shared} {K : PySem.W.Frag} {x C CB D : Addr} {nm nm' nmT : Str} {od : Option Addr}
/-- the object of a caught error -/
def ExcAt (x C : Addr) (od : Option Addr) (h : Heap) : Prop := (∃ vs sl, h.get? x = some ⟨.ref C, od, .fields vs, sl⟩) ∧ ∀ d, od = some d → ∃ o, h.get? d = some o
theorem ExcAt.inst {h : Heap} (e : ExcAt x C od h) : ∃ ox o, InstAt h x ox C o := by
  obtain ⟨⟨vs, sl, hx⟩, hd⟩ := e
  cases od with
  | none => exact ⟨_, none, hx, rfl, rfl, trivial⟩
  | some d =>
    obtain ⟨o, ho⟩ := hd d rfl
    exact ⟨_, some o, hx, rfl, rfl, ho⟩
/-- what an error's class must have for isinstance -/
structure XIsi (K : PySem.W.Frag) (C : Addr) : Prop where
  ha : findIn K (.ref C) "__class__" = some (some (.builtin "object.__class__"))
  hn : specialIn K (.builtin "object.__class__") "__get__" = some (some (.builtin "getset_descriptor.__get__"))
  htk : takesIn K (.builtin "object.__class__") = some true
theorem exc_class {Q : Option Value → Shared → Prop} (U : XUnder K C CB nm) (Y : XIsi K C) (X : K.In s.heap) (I : ExcAt x C od s.heap) (h : Q (some (.ref C)) { s with toks := s.toks + 1 }) : wpAny (model prog w) A (getAttr? (.ref x) "__class__") Q E s := by
  obtain ⟨ox, o, I⟩ := I.inst
  obtain ⟨q, N, bs, sn, sub, ab, col, dd, k0, k1, k2, k3, k5, lk⟩ := U.lk
  have hc : ∃ cd, clsIn K C = some cd := ⟨_, by unfold clsIn; rw [lk]⟩
  have hm : mroIn K C (.type "object") = some true := by unfold mroIn clsIn; rw [lk]; rfl
  have hmB : mroIn K C (.type "BaseException") = some true := by unfold mroIn clsIn; rw [lk]; rfl
  have G := PySem.F.excAttr_ValueError.ga
  have hf : findObj K C o "__class__" = some (.bind (.builtin "getset_descriptor.__get__") (.builtin "object.__class__")) := by
    obtain ⟨cd, hc⟩ := hc
    unfold findObj
    rw [hc, Y.ha]
    simp only [Option.bind_some]
    rw [Y.hn]
    simp only [Option.bind_some]
    rw [Y.htk]
    rfl
  unfold getAttr? getAttrBy? getAttrBy
  refine wpAny_bind (wpAny_mkText (wpAny_bind (wpAny_attempt (wpAny_holding (wpAny_bind (I.type _ _ _ _ (fun _ _ e => e) (wpAny_bind (looks_findIn X U.ga _ _ _ _ (fun _ _ e => e) ?_))))))))
  dsimp only
  rw [show (onTheHeap (Value.ref C) && Value.builtin "BaseException.__getattribute__" == Value.builtin "object.__getattribute__") = false from by rw [show (Value.builtin "BaseException.__getattribute__" == Value.builtin "object.__getattribute__") = false from by decide +kernel, Bool.and_false], if_neg (by decide)]
  have hb : Looks (model prog w) s.heap (hookBefore (.ref C)) none := looks_hook X (by show (if onTheHeap (Value.ref C) then findIn K (.ref C) "__getattr__" else some none) = some none; rw [if_pos (show onTheHeap (Value.ref C) = true from rfl)]; exact U.gh)
  refine wpAny_bind (hb _ _ _ _ (fun _ _ e => e) (wpAny_bind (wpAny_attempt (wpAny_holding ?_))))
  unfold callGetattribute
  rw [show (false && onTheHeap (Value.builtin "BaseException.__getattribute__")) = false from rfl, if_neg (by decide)]
  unfold boundAndCalled
  rw [G.bind]
  refine wpAny_bind (wpAny_pure ?_)
  show wpAny _ _ (call (.builtin "BaseException.__getattribute__") [.ref x, .str "__class__" s.toks]) _ _ _
  refine wpAny_call ?_
  have sub : Looks (model prog w) s.heap (isInstance (.ref x) (.type "BaseException")) true := I.type.andThen (looks_mroIn X hmB)
  refine codeAny_call_builtin G.plain PySem.F.entry_bexc_ga ?_
  refine @PySem.W.check_slot (model prog w) _ _ { s with toks := s.toks + 1 } "BaseException.__getattribute__" "BaseException" "__getattribute__" (.ref x) [.str "__class__" s.toks] [] _ (by decide +kernel) (by decide +kernel) sub (PySem.F.args_bexc_ga (.ref x) (.str "__class__" s.toks)) ?_
  have L0 := I.type (M := model prog w)
  have L1 := looks_find (M := model prog w) X I hf
  unfold Builtin.«object.__getattribute__»
  refine wpAny_bind (wpAny_pure ?_)
  refine wpAny_bind (wpAny_pure (wpAny_bind (L0 _ _ _ _ (fun _ _ e => e) (wpAny_bind (L1 _ _ _ _ (fun _ _ e => e) ?_)))))
  show wpAny _ _ (holding [.builtin "object.__class__"] (call (.builtin "getset_descriptor.__get__") [.builtin "object.__class__", .ref x, .ref C]) >>= ret) _ _ _
  refine wpAny_bind (wpAny_holding (wpAny_call (class_get (s := { s with toks := s.toks + 1 }) (ox := ox) (od := o) X I hm ?_)))
  refine wpAny_pure ?_
  exact handed_on rfl (wpAny_pure h)
theorem kitx_exc (U : XUnder K C CB nm) (Y : XIsi K C) : KitX K (.ref x) (.ref C) (ExcAt x C od) where
  ty := fun M h X I => by
    obtain ⟨ox, o, I⟩ := I.inst
    exact I.type
  it := fun M h X I => by
    obtain ⟨q, N, bs, sn, sub, ab, col, dd, k0, k1, k2, k3, k5, lk⟩ := U.lk
    intro A' Q' E' s' k q
    unfold isType loadHead
    exact wpAny_bind (wpAny_loadPart (k _ _ (X _ _ lk)) (wpAny_pure q))
  ne := fun h tp dd' its n sl X htp => by
    obtain ⟨q, N, bs, sn, sub, ab, col, dd, k0, k1, k2, k3, k5, lk⟩ := U.lk
    refine Bool.eq_false_iff.mpr fun q => ?_
    have e : C = tp := Value.ref.inj (beq_iff_eq.mp q)
    subst e
    have z := congrArg (fun o => o.map (·.cls)) ((X _ _ lk).symm.trans htp)
    simp at z
  ca := fun X I k => exc_class U Y X I k
theorem kit_same : kitOne K (.ref C) (.ref C) = some true := by
  unfold kitOne
  rw [if_pos (by simp)]
theorem XUnder.cls (V : XUnder K D CB nm') : (clsIn K D).isSome = true ∧ typeIn K (.ref D) = some (.type "type") := by
  obtain ⟨q', N', bs', sn', sub', ab', col', dd', l0, l1, l2, l3, l5, lk'⟩ := V.lk
  refine ⟨by unfold clsIn; rw [lk']; rfl, ?_⟩
  show Option.map (fun x => x.cls) (K.lookup D) = some (.type "type")
  rw [lk']
  rfl
theorem kit_diff (U : XUnder K C CB nm) (V : XUnder K D CB nm') (T : XTop K CB nmT) (hT : ¬ nm' = nmT) (e : ¬ nm = nm') : kitOne K (.ref C) (.ref D) = some false := by
  unfold kitOne
  have ne := U.ne V e
  rw [if_neg (by simpa using ne)]
  obtain ⟨q, N, bs, sn, sub, ab, col, dd, k0, k1, k2, k3, k5, lk⟩ := U.lk
  obtain ⟨h1, h2⟩ := V.cls
  unfold kitCls
  dsimp only
  rw [h1, h2, if_pos (by rfl)]
  unfold subIn mroIn clsIn
  dsimp only
  rw [lk]
  show some ((Value.ref C :: bmX CB).contains (.ref D)) = some false
  have n1 : (Value.ref D == Value.ref C) = false := by simpa using Ne.symm ne
  have n2 : (Value.ref D == Value.ref CB) = false := by simpa using V.neT T hT
  simp only [List.contains_cons, n1, n2, Bool.false_or]
  rfl
theorem kit_value (U : XUnder K C CB nm) : kitOne K (.ref C) (.type "ValueError") = some true := by
  unfold kitOne
  rw [if_neg (by simp)]
  obtain ⟨q, N, bs, sn, sub, ab, col, dd, k0, k1, k2, k3, k5, lk⟩ := U.lk
  unfold kitCls
  dsimp only
  rw [if_pos (by decide +kernel)]
  unfold subIn mroIn clsIn
  dsimp only
  rw [lk]
  rfl
end
/-- is a value of the class -/
inductive IsiV (K : PySem.W.Frag) (H : Hp) : V → V → Bool → Prop where
  | exc {e C CB : Addr} {od : Option Addr} {nm : Str} {D : Addr} {b : Bool} (h : H e = some (XC e C od)) (hd : ∀ d, od = some d → ∃ fs, H d = some (.xd fs)) (U : XUnder K C CB nm) (Y : XIsi K C) (k : kitOne K (.ref C) (.ref D) = some b) : IsiV K H (.ref e) (.ref D) b
  | val {e C CB : Addr} {od : Option Addr} {nm : Str} {T : String} {b : Bool} (h : H e = some (XC e C od)) (hd : ∀ d, od = some d → ∃ fs, H d = some (.xd fs)) (U : XUnder K C CB nm) (Y : XIsi K C) (k : kitOne K (.ref C) (.type T) = some b) : IsiV K H (.ref e) (.ty T) b
  | oth {x : V} {t : Value} {D : Addr} {b : Bool} (h : TyOf K H x t) (k : kitOne K t (.ref D) = some b) : IsiV K H x (.ref D) b
  | otb {x : V} {t : Value} {T : String} {b : Bool} (h : TyOf K H x t) (k : kitOne K t (.type T) = some b) : IsiV K H x (.ty T) b
section
variable {X : Cx}
theorem call_isiX : CallR X (.builtin "isinstance") (fun xs H Q => ∃ x c b, xs = [x, c] ∧ IsiV X.K H x c b ∧ Q (.bl b) H) := by
  intro pins s σ H xs us Q I r h
  obtain ⟨x, c, b, rfl, iv, q⟩ := h
  obtain ⟨u, w', rfl, r1, r2⟩ := vals2 r
  have at_ : ∀ {e C : Addr} {od : Option Addr}, H e = some (XC e C od) → (∀ d, od = some d → ∃ fs, H d = some (.xd fs)) → ExcAt e C od s.heap := fun {e C od} h hd => by
    obtain ⟨⟨vs, sl, he⟩, _⟩ := I.hok e _ h
    refine ⟨⟨vs, sl, he⟩, fun d e => ?_⟩
    obtain ⟨fs, hf⟩ := hd d e
    obtain ⟨mA, ⟨o, _, _, ho, _⟩, _⟩ := I.hok d _ hf
    exact ⟨o, ho⟩
  cases iv with
  | exc h hd U Y k =>
    cases r1; cases r2
    exact kia_one (kitx_exc U Y) I.kIn (at_ h hd) k (fun z => nomatch z) fun tk => ⟨.bl b, H, I.tok tk, rfl, q⟩
  | val h hd U Y k =>
    cases r1; cases r2
    exact kia_one (kitx_exc U Y) I.kIn (at_ h hd) k (fun z => nomatch z) fun tk => ⟨.bl b, H, I.tok tk, rfl, q⟩
  | oth h k =>
    cases r2
    exact isinst_ok I r1 h k fun tk => ⟨.bl b, H, I.tok tk, rfl, q⟩
  | otb h k =>
    cases r2
    exact isinst_ok I r1 h k fun tk => ⟨.bl b, H, I.tok tk, rfl, q⟩
/-- e.name of a caught error -/
def tXFld (K : PySem.W.Frag) (ta : TE) (f : Str) : TE := fun σ H Q => ta σ H fun y H1 => ∃ e C CB d nm fs v, y = .ref e ∧ H1 e = some (XC e C (some d)) ∧ H1 d = some (.xd fs) ∧ XUnder K C CB nm ∧ findIn K (.ref C) f = some none ∧ fs.lookup f = some v ∧ Q v H1
theorem pe_xfld {e : Expr} {f : Str} {pos : Pos} {ta : TE} (he : PE X e ta) (hb : attributeBase e f X.env (eval e X.env) = eval e X.env) : PE X (.Attribute e f pos) (tXFld X.K ta f) := by
  intro pins s σ H Q I h
  refine attr_of hb (thn (he pins s σ H _ I h) fun u s1 ⟨y, H1, I1, rx, e, C, CB, d, nm, fs, v, ey, h1, h2, U, ha, hl, q⟩ => ?_)
  subst ey
  obtain rfl : u = Value.ref e := rx
  obtain ⟨⟨vs, sl, ho⟩, _⟩ := I1.hok e _ h1
  obtain ⟨mA, ns, r⟩ := I1.hok d _ h2
  obtain ⟨o, hd, look⟩ := lookIn_ns ns
  obtain ⟨qn, N, bs, sn, sub, ab, col, dd, k0, k1, k2, k3, k5, lk⟩ := U.lk
  obtain ⟨u', hu, ru⟩ := RelO.some_of (v := v) (o := mA f) (by rw [← hl]; exact r f)
  refine xget_own (CB := CB) (ox := ⟨.ref C, some d, .fields vs, sl⟩) (od := o) I1.kIn ⟨ho, rfl, rfl, hd⟩ (cd := { name := nm, bases := bs, mro := .ref C :: bmX CB, ns := N, qualname := qn, hasDict := true, slotNames := sn, subclasses := sub, abstract := ab, collection := col, hasDel := false }) (by unfold clsIn; rw [lk]) rfl rfl U.ga U.gh ha (by rw [look, hu]) (handed_of ru) ?_
  exact ⟨v, H1, I1.tok _, ru, q⟩
end
end L2

set_option Elab.async false
set_option linter.all false
set_option maxRecDepth 100000
set_option maxHeartbeats 4000000
namespace L2
open PySem
end L2
namespace Sx
open PySem L2 Bs
theorem bVE : bootBuiltins "ValueError" = some (.type "ValueError") := by decide +kernel
theorem bInt : bootBuiltins "int" = some (.type "int") := by decide +kernel
theorem bBool : bootBuiltins "bool" = some (.type "bool") := by decide +kernel
theorem bMin : bootBuiltins "min" = some (.builtin "min") := by decide +kernel
structure XRaw (K : PySem.W.Frag) (C CB : Addr) (nm : Str) : Prop where
  lk : ∃ (q : Str) (N : Addr) (bs : List Value) (sn : List Str) (sub : List Value) (ab : Bool) (col : Option Bool) (dd : Option Addr) (k0 k1 k2 k3 k5 : Option Value),
    K.lookup C = some (excClassObj nm q C N bs (bmX CB) true sn sub ab col dd k0 k1 k2 k3 k5 "ValueError.__new__")
theorem xraw_mk {K : PySem.W.Frag} {C CB : Addr} {nm q : Str} {N : Addr} {bs : List Value} {sn : List Str} {sub : List Value} {ab : Bool} {col : Option Bool} {dd : Option Addr} {k0 k1 k2 k3 k5 : Option Value}
    (l : K.lookup C = some (excClassObj nm q C N bs (bmX CB) true sn sub ab col dd k0 k1 k2 k3 k5 "ValueError.__new__")) : XRaw K C CB nm := ⟨q, N, bs, sn, sub, ab, col, dd, k0, k1, k2, k3, k5, l⟩
theorem xtop_mk {K : PySem.W.Frag} {CB : Addr} {nm q : Str} {N : Addr} {bs : List Value} {hd : Bool} {sn : List Str} {sub : List Value} {ab : Bool} {col : Option Bool} {dd : Option Addr} {k0 k1 k2 k3 k5 : Option Value}
    (l : K.lookup CB = some (excClassObj nm q CB N bs bmV hd sn sub ab col dd k0 k1 k2 k3 k5 "ValueError.__new__")) : XTop K CB nm := ⟨q, N, bs, hd, sn, sub, ab, col, dd, k0, k1, k2, k3, k5, l⟩
/-- an error's own __init__ with one attribute -/
def spX1 (C : Addr) (name : Str) (ok : V → Prop) : Sp := fun vs H Q _ => ∃ x v, vs = [.ref x, v] ∧ ok v ∧ H x = some (XN x C) ∧ ∀ d, H d = none → Q .non (upd (upd H d (.xd [(name, v)])) x (XD x C d))
end Sx

set_option Elab.async false
set_option linter.all false
set_option maxRecDepth 100000
set_option maxHeartbeats 4000000
namespace Sx
open PySem PySem.Spec PyProof.Rows L2
open PySem.W (clsIn mroIn typeIn subIn kitOne kitCls)
section
variable {K : PySem.W.Frag} {C CB D : Addr} {nm nm' nmT : Str}
theorem XRaw.ne (U : XUnder K C CB nm) (V : XRaw K D CB nm') (h : ¬ nm = nm') : C ≠ D := fun e => by
  subst e
  obtain ⟨q, N, bs, sn, sub, ab, col, dd, k0, k1, k2, k3, k5, l1⟩ := U.lk
  obtain ⟨q', N', bs', sn', sub', ab', col', dd', l0, l1', l2, l3, l5, l2'⟩ := V.lk
  rw [l1] at l2'
  have := congrArg (fun o => match o with | some (⟨_, _, .cls cd, _⟩ : Obj) => cd.name | _ => nm) l2'
  exact h this
theorem XRaw.neT (V : XRaw K D CB nm') (T : XTop K CB nmT) (h : ¬ nm' = nmT) : D ≠ CB := fun e => by
  subst e
  obtain ⟨q, N, bs, sn, sub, ab, col, dd, k0, k1, k2, k3, k5, l1⟩ := V.lk
  obtain ⟨q', N', bs', hd', sn', sub', ab', col', dd', l0, l1', l2, l3, l5, l2'⟩ := T.lk
  rw [l1] at l2'
  have := congrArg (fun o => match o with | some (⟨_, _, .cls cd, _⟩ : Obj) => cd.name | _ => nm') l2'
  exact h this
theorem XRaw.cls (V : XRaw K D CB nm') : (clsIn K D).isSome = true ∧ typeIn K (.ref D) = some (.type "type") := by
  obtain ⟨q', N', bs', sn', sub', ab', col', dd', l0, l1, l2, l3, l5, lk'⟩ := V.lk
  refine ⟨by unfold clsIn; rw [lk']; rfl, ?_⟩
  show Option.map (fun x => x.cls) (K.lookup D) = some (.type "type")
  rw [lk']
  rfl
/-- an error of one class is none of another, of which no more is known -/
theorem kit_diffR (U : XUnder K C CB nm) (V : XRaw K D CB nm') (T : XTop K CB nmT) (hT : ¬ nm' = nmT) (e : ¬ nm = nm') : kitOne K (.ref C) (.ref D) = some false := by
  unfold kitOne
  have ne := XRaw.ne U V e
  rw [if_neg (by simpa using ne)]
  obtain ⟨q, N, bs, sn, sub, ab, col, dd, k0, k1, k2, k3, k5, lk⟩ := U.lk
  obtain ⟨h1, h2⟩ := V.cls
  unfold kitCls
  dsimp only
  rw [h1, h2, if_pos (by rfl)]
  unfold subIn mroIn clsIn
  dsimp only
  rw [lk]
  show some ((Value.ref C :: bmX CB).contains (.ref D)) = some false
  have n1 : (Value.ref D == Value.ref C) = false := by simpa using Ne.symm ne
  have n2 : (Value.ref D == Value.ref CB) = false := by simpa using V.neT T hT
  simp only [List.contains_cons, n1, n2, Bool.false_or]
  rfl
end
end Sx

set_option Elab.async false
set_option linter.all false
set_option maxRecDepth 100000
set_option maxHeartbeats 4000000
/-! the places of a band and its good rows, on lists of signs -/
namespace AC
section
variable {W : List (List Nat)} {P : List Nat → Bool} {l m p q u : List Nat} {c : Nat}
def Good (W : List (List Nat)) (l : List Nat) : Prop := ∀ w ∈ W, ¬ w <:+: l
def Pl (W : List (List Nat)) (p : List Nat) : Prop := p = [] ∨ ((∃ w ∈ W, p <+: w ∧ p.length < w.length) ∧ Good W p)
theorem Good.sub (h : Good W l) (hs : m <:+: l) : Good W m := fun w hw hi => h w hw (hi.trans hs)
theorem Pl.init (h : Pl W (u ++ [c])) : Pl W u := by
  rcases h with h | ⟨⟨w, hw, hp, hl⟩, hg⟩
  · simp at h
  · by_cases e : u = []
    · exact .inl e
    · refine .inr ⟨⟨w, hw, (List.prefix_append u [c]).trans hp, ?_⟩, hg.sub (List.prefix_append u [c]).isInfix⟩
      rw [List.length_append] at hl
      simp at hl
      omega
/-- the longest end that is P -/
def lsuf (P : List Nat → Bool) : List Nat → List Nat
  | [] => []
  | a :: l => if P (a :: l) = true then a :: l else lsuf P l
theorem lsuf_P (h0 : P [] = true) : ∀ l, P (lsuf P l) = true
  | [] => h0
  | a :: l => by
    unfold lsuf
    split
    · assumption
    · exact lsuf_P h0 l
end
end AC
namespace Bs
open PySem AC
theorem subAt_iff (x y : Str) (i : Nat) : Builtin.Str.subAt x y i = true ↔ ((ch x).drop i).take y.length = ch y := by
  unfold Builtin.Str.subAt
  rw [beq_iff_eq]
  constructor
  · intro h
    have := congrArg Array.toList h
    rw [Array.toList_extract, List.extract_eq_take_drop, Nat.add_sub_cancel_left] at this
    exact this
  · intro h
    refine Array.toList_inj.mp ?_
    rw [Array.toList_extract, List.extract_eq_take_drop, Nat.add_sub_cancel_left]
    exact h
theorem inS_iff (y x : Str) : inS y x = true ↔ ch y <:+: ch x := by
  unfold inS
  rw [StrLaws.found_iff]
  constructor
  · rintro ⟨i, hi, hs⟩
    have hs' := (subAt_iff x y i).mp hs
    rw [← hs']
    exact (List.take_prefix _ _).isInfix.trans (List.drop_suffix _ _).isInfix
  · rintro ⟨a, b, e⟩
    refine ⟨a.length, ?_, (subAt_iff x y _).mpr ?_⟩
    · rw [← len_ch x, ← e, List.length_append, List.length_append, len_ch]; omega
    · rw [← e, List.append_assoc, List.drop_left, ← len_ch y, List.take_left]
def wl (ws : List Str) : List (List Nat) := ws.map ch
theorem bears_iff (ws : List Str) (r : Str) : bears ws r = false ↔ Good (wl ws) (ch r) := by
  unfold bears Good wl
  rw [List.any_eq_false]
  constructor
  · intro h w hw hi
    obtain ⟨v, hv, rfl⟩ := List.mem_map.mp hw
    exact h v hv ((inS_iff v r).mpr hi)
  · intro h v hv hi
    exact h (ch v) (List.mem_map.mpr ⟨v, hv, rfl⟩) ((inS_iff v r).mp hi)
/-! ### the places of a band -/
theorem ch_take (w : Str) (n : Nat) : ch (takeS w n) = (ch w).take n := slice_to w n
theorem ch_drop (w : Str) (n : Nat) : ch (dropS w n) = (ch w).drop n := slice_from w n
/-- the longest end that is a place -/
def isP (ss : List Str) (l : List Nat) : Bool := decide (l ∈ ss.map ch)
theorem isP_iff {ss : List Str} {k : Str} : isP ss (ch k) = true ↔ k ∈ ss := by
  unfold isP
  rw [decide_eq_true_iff]
  constructor
  · intro h
    obtain ⟨k', h1, h2⟩ := List.mem_map.mp h
    rw [← ext_ch h2]
    exact h1
  · intro h
    exact List.mem_map.mpr ⟨k, h, rfl⟩
theorem lsuf_drop {P : List Nat → Bool} (h0 : P [] = true) : ∀ {l : List Nat} {n : Nat}, P (l.drop n) = true → (∀ m, m < n → P (l.drop m) = false) → lsuf P l = l.drop n
  | [], n, _, _ => by simp [lsuf]
  | a :: l, 0, h1, _ => by
    unfold lsuf
    rw [List.drop_zero] at h1
    rw [if_pos h1]
    rfl
  | a :: l, n + 1, h1, h2 => by
    have := h2 0 (by omega)
    rw [List.drop_zero] at this
    unfold lsuf
    rw [this, if_neg (by simp), List.drop_succ_cons]
    exact lsuf_drop h0 (by simpa using h1) fun m hm => by simpa using h2 (m + 1) (by omega)
theorem ch_lend {ss : List Str} (he : ("" : Str) ∈ ss) (r : Str) : ch (lend ss r) = lsuf (isP ss) (ch r) := by
  have hx : ∃ n, n ≤ r.length ∧ dropS r n ∈ ss ∧ ∀ m, m < n → dropS r m ∉ ss := by
    have h1 : ∃ n, dropS r n ∈ ss := ⟨r.length, by rw [dropS_all]; exact he⟩
    have key : ∀ k, (∃ n, n < k ∧ dropS r n ∈ ss ∧ ∀ m, m < n → dropS r m ∉ ss) ∨ ∀ m, m < k → dropS r m ∉ ss := by
      intro k
      induction k with
      | zero => right; intro m hm; omega
      | succ k ih =>
        rcases ih with ⟨n, hn, h⟩ | h
        · exact .inl ⟨n, by omega, h⟩
        · by_cases hk : dropS r k ∈ ss
          · exact .inl ⟨k, by omega, hk, h⟩
          · right
            intro m hm
            by_cases e : m = k
            · rw [e]; exact hk
            · exact h m (by omega)
    rcases key (r.length + 1) with ⟨n, hn, h⟩ | h
    · exact ⟨n, by omega, h⟩
    · exact absurd (by rw [dropS_all]; exact he) (h r.length (by omega))
  obtain ⟨n, hn, hm, hl⟩ := hx
  unfold lend
  rw [lendN_eq hm hl hn, ch_drop]
  refine (lsuf_drop (isP_iff (k := "").mpr he) ?_ fun m hm' => ?_).symm
  · rw [← ch_drop]; exact isP_iff.mpr hm
  · rw [← ch_drop]
    have := hl m hm'
    rw [← isP_iff] at this
    simpa using this
section
variable {ws ss : List Str} {r : Str} {c : Nat}
theorem bears_pre {a b : Str} (h : ch a <:+: ch b) (hg : bears ws b = false) : bears ws a = false := (bears_iff ws a).mpr (((bears_iff ws b).mp hg).sub h)
/-- the end that the law looks for: the first start -/
def lawEnd (ws : List Str) (e : Str) : Bool := ws.any fun w => decide (e.length < w.length) && Txt.startswith w e
end
end Bs

set_option Elab.async false
set_option linter.all false
set_option maxRecDepth 100000
set_option maxHeartbeats 4000000
namespace L2
open PySem PySem.Spec PyProof.Rows
section
variable {X : Cx}
/-- xs[::-1] of a list -/
def rRev (K : PySem.W.Frag) : V → Hp → VK → Prop := fun x H Q => ∃ a xs, x = .ref a ∧ SqL K H a xs ∧ ∀ p, H p = none → Q (.ref p) (upd H p (.lst xs.reverse))
def tRev (K : PySem.W.Frag) (te : TE) : TE := fun σ H Q => te σ H fun x H1 => rRev K x H1 Q
end
/-! ### enumerate of a text -/
def Itse (z : Str) : It := ⟨fun i _ => i < z.cps.size, fun i H x H' => ∃ T, H T = none ∧ x = .ref T ∧ H' = upd H T (.tup [.int (i : Nat), signV z i]), fun i _ => z.cps.size ≤ i⟩
section
variable {X : Cx}
def iEnumS (ta : TA) : TI := fun σ H R => ta σ H fun vs H1 => ∃ z, vs = [.str z] ∧ R (Itse z) H1
end

end L2
namespace Sx
open PySem L2
theorem bMax' : bootBuiltins "max" = some (.builtin "max") := by decide +kernel
end Sx

set_option Elab.async false
set_option linter.all false
set_option maxRecDepth 100000
set_option maxHeartbeats 4000000
namespace Sx
open PySem L2 Bs
/-- a thing that may be handed in -/
inductive Thing (H : Hp) : V → Prop where
  | flat {v : V} (h : flatV v = true) : Thing H v
  | lst {a : Addr} {xs : List V} (h : H a = some (.lst xs)) (f : xs.all flatV = true) : Thing H (.ref a)
  | tup {a : Addr} {xs : List V} (h : H a = some (.tup xs)) (f : xs.all flatV = true) : Thing H (.ref a)
  | dic {a : Addr} (h : H a = some (.dK [])) : Thing H (.ref a)
theorem Thing.same {H H' : Hp} {v : V} (t : Thing H v) (s : Same H H') : Thing H' v := by
  cases t with
  | flat h => exact .flat h
  | lst h f => exact .lst (s _ _ h) f
  | tup h f => exact .tup (s _ _ h) f
  | dic h => exact .dic (s _ _ h)
theorem raise_heap {H : Hp} {e d : Addr} {o1 o2 o3 : HO} (he : H e = none) (hd : (upd H e o1) d = none) : d ≠ e ∧ H d = none ∧ del (upd (upd (upd H e o1) d o2) e o3) e = upd H d o2 := by
  have hne : d ≠ e := fun z => by rw [z, upd_same] at hd; cases hd
  refine ⟨hne, by rw [upd_ne hne] at hd; exact hd, ?_⟩
  rw [del_upd_same, del_upd_ne hne, del_upd he]
section
variable {P : Program} {w : World} {K : PySem.W.Frag} {mg : Str → Option Value} {base : Heap} {f : Addr} {fd : FuncData}
/-- what is no place: the error has it -/
def NoPl (CN : Addr) (v : V) (H : Hp) (E : XK) : Prop := ∀ (d : Addr) (H' : Hp), Same H H' → H d = none → H' d = some (.xd [("place", v)]) → E (.ref CN) (some d) H'
def spCPE (C CN : Addr) : Sp := fun vs H Q E => ∃ (x : Addr) (v : V) (g : Str) (ws ss ls : List Str), vs = [.ref x, v] ∧ BandAt C H x g ws ss ls ∧ Thing H v ∧ ((∃ p, v = .str p ∧ p ∈ ss ∧ Q .non H) ∨ ((∀ p ∈ ss, v ≠ .str p) ∧ NoPl CN v H E))
def spLedE (C CN : Addr) : Sp := fun vs H Q E => ∃ (x : Addr) (v : V) (c : Nat) (g : Str) (ws ss ls : List Str), vs = [.ref x, v, .str ⟨#[c]⟩] ∧ BandAt C H x g ws ss ls ∧ Thing H v ∧ c ∈ ch g ∧ ((∃ p, v = .str p ∧ p ∈ ss ∧ Q (mvV ws ss p c) H) ∨ ((∀ p ∈ ss, v ≠ .str p) ∧ NoPl CN v H E))
end
end Sx

set_option Elab.async false
set_option linter.all false
set_option maxRecDepth 100000
set_option maxHeartbeats 4000000
namespace PySem.SeqAt
open AutoSeq1 (wpAny_loadPart')
open MeetsSeq
section
variable {A : Around} {s : Shared}
end
end PySem.SeqAt
namespace L2
open PySem PySem.Spec PyProof.Rows Sx
section
variable {X : Cx}
def rNotInT (K : PySem.W.Frag) : R2 := fun x y H Q => ∃ p ss, y = .ref p ∧ SqL K H p (List.map V.str ss) ∧ Thing H x ∧ (((∃ k ∈ ss, x = .str k) ∧ Q (.bl false) H) ∨ ((∀ k ∈ ss, x ≠ .str k) ∧ Q (.bl true) H))
end
end L2

set_option Elab.async false
set_option linter.all false
set_option maxRecDepth 100000
set_option maxHeartbeats 4000000
namespace L2
open PySem PySem.Spec PyProof.Rows
section
variable {X : Cx}
theorem op_mulS : OpR X (binaryOp .Mult) (fun x y H Q => ∃ z n, x = .str z ∧ y = .int n ∧ MulOk z n ∧ Q (.str (Txt.mul z n)) H) := by
  intro pins s σ H x y v u Q I rx ry h
  obtain ⟨z, n, rfl, rfl, ok, q⟩ := h
  obtain ⟨t, rfl⟩ := rx
  obtain ⟨t', rfl⟩ := ry
  exact SB.mul ok fun t2 k => ⟨.str _, H, I.tok k, ⟨t2, rfl⟩, q⟩
end
theorem eqSelf (v : V) : V.bl (decide (v = v)) = V.bl true := by simp
theorem neSelf (v : V) : V.bl (!decide (v = v)) = V.bl false := by simp
end L2

set_option Elab.async false
set_option linter.all false
set_option maxRecDepth 100000
set_option maxHeartbeats 4000000
namespace Bs
open PySem AC
theorem lend_mem {ss : List Str} (he : ("" : Str) ∈ ss) (r : Str) : lend ss r ∈ ss := by
  rw [← isP_iff, ch_lend he]
  exact lsuf_P (isP_iff (k := "").mpr he) _
theorem take_zero (r : Str) : takeS r 0 = "" := ext_ch (by rw [ch_take]; rfl)
theorem take_all (r : Str) : takeS r r.length = r := ext_ch (by rw [ch_take, ← len_ch, List.take_length])
theorem bears_nil {ws : List Str} (hw : ∀ w ∈ ws, 1 ≤ w.length) : bears ws "" = false := by
  refine (bears_iff ws "").mpr fun w hm hi => ?_
  obtain ⟨v, hv, rfl⟩ := List.mem_map.mp hm
  have h1 := hw v hv
  have h2 := hi.length_le
  rw [len_ch] at h2
  have : (ch ("" : Str)).length = 0 := rfl
  omega
end Bs
namespace L2
open PySem Bs
end L2
namespace Sx
open PySem L2 Bs
theorem look_signs (g : Str) (b d q : Addr) : (flds g b d q).lookup ("signs" : Str) = some (.str g) := by
  rw [← put4, lookup_putF, if_neg (by decide +kernel), ← put3, lookup_putF, if_neg (by decide +kernel), ← put2, lookup_putF, if_neg (by decide +kernel), ← put1, lookup_putF, if_pos rfl]
section
variable {P : Program} {w : World} {K : PySem.W.Frag} {mg : Str → Option Value} {base : Heap} {f : Addr} {fd : FuncData}
def spCheckRow (C : Addr) : Sp := fun vs H Q _ => ∃ (x : Addr) (r g : Str) (ws ss ls : List Str), vs = [.ref x, .str r] ∧ BandAt C H x g ws ss ls ∧ (∀ c ∈ ch r, c ∈ ch g) ∧ ∀ H', Same H H' → Q .non H'
def spPlaceOf (C : Addr) : Sp := fun vs H Q _ => ∃ (x : Addr) (r g : Str) (ws ss ls : List Str), vs = [.ref x, .str r] ∧ BandAt C H x g ws ss ls ∧ (∀ c ∈ ch r, c ∈ ch g) ∧ bears ws r = false ∧ (∀ w ∈ ws, 1 ≤ w.length) ∧ ∀ H', Same H H' → Q (.str (lend ss r)) H'
def spIsGood (K : PySem.W.Frag) : Sp := fun vs H Q _ => ∃ (r : Str) (a : Addr) (ws : List Str), vs = [.str r, .ref a] ∧ SqL K H a (ws.map V.str) ∧ ws.length ≤ 1000 ∧ ∀ H', Same H H' → Q (.bl (!(ws.any fun w => Txt.endswith r w))) H'
def spEnd5 (K : PySem.W.Frag) : Sp := fun vs H Q _ => ∃ (r : Str) (a : Addr) (ws ss : List Str), vs = [.str r, .ref a] ∧ SqL K H a (ws.map V.str) ∧ ss.Perm (keysS ws "" ws) ∧ (∀ w ∈ ws, w.length ≤ 5) ∧ bears ws r = false ∧ r.length ≤ 1000 ∧ Q (.str (lend ss r)) H
def spRow5 (K : PySem.W.Frag) : Sp := fun vs H Q _ => ∃ (a b : Addr) (ns : List Int) (g : Str) (ws : List Str), vs = [.ref a, .str g, .ref b] ∧ SqL K H a (ns.map V.int) ∧ SqL K H b (ws.map V.str) ∧ Signs g ∧ ws.length ≤ 6 ∧ (∀ w ∈ ws, Word g w) ∧
  ∀ (r : Str) (H' : Hp), Same H H' → bears ws r = false → (∀ c ∈ ch r, c ∈ ch g) → r.length ≤ 102 → Q (.str r) H'
def gEnds (r : Str) : V → V := fun v => match v with
  | .str w => .bl (Txt.endswith r w)
  | _ => .non
end
end Sx

set_option Elab.async false
set_option linter.all false
set_option maxRecDepth 100000
set_option maxHeartbeats 4000000
namespace L2
open PySem PySem.Spec PyProof.Rows
section
variable {X : Cx}
/-- == of two tuples of flat things -/
def rEqTup (K : PySem.W.Frag) : R2 := fun x y H Q => ∃ a b xs ys, x = .ref a ∧ y = .ref b ∧ SqT K H a xs ∧ SqT K H b ys ∧ xs.length = ys.length ∧ xs.all flatV = true ∧ ys.all flatV = true ∧ Q (.bl (eqVs xs ys)) H
end
end L2
namespace Bs
open PySem
theorem len_app (a b : Str) : (a ++ b).length = a.length + b.length := by rw [← len_ch, ch_append, List.length_append, len_ch, len_ch]
theorem intText (i : Int) (h : i.natAbs ≤ 1000) : i.natAbs.log2 < 1920 ∧ (Str.ofString (toString i)).length ≤ 1921 := by
  have h1 : i.natAbs.log2 < 1920 := by have := Nat.log2_le_self i.natAbs; omega
  exact ⟨h1, PyProof.Rows.int_text_len_1921 h1⟩
/-- the first sign that is none of the band's -/
structure Out (g r : Str) (i : Nat) : Prop where
  at_ : ∃ c, (ch r)[i]? = some c ∧ c ∉ ch g
  lo : ∀ j c, j < i → (ch r)[j]? = some c → c ∈ ch g
def Ins (g r : Str) : Prop := ∀ c ∈ ch r, c ∈ ch g
structure Bad (ws : List Str) (r : Str) (n : Nat) : Prop where
  lt : n < r.length
  good : bears ws (takeS r n) = false
  bad : bears ws (takeS r (n + 1)) = true
theorem Out.lt {g r : Str} {i : Nat} (o : Out g r i) : i < r.length := by
  obtain ⟨c, h, _⟩ := o.at_
  rw [← len_ch]
  exact (List.getElem?_eq_some_iff.mp h).1
theorem Out.one {g r : Str} {i j : Nat} (o : Out g r i) (p : Out g r j) : i = j := by
  rcases Nat.lt_trichotomy i j with h | h | h
  · obtain ⟨c, hc, hn⟩ := o.at_
    exact absurd (p.lo i c h hc) hn
  · exact h
  · obtain ⟨c, hc, hn⟩ := p.at_
    exact absurd (o.lo j c h hc) hn
theorem Out.no {g r : Str} {i : Nat} (o : Out g r i) (h : Ins g r) : False := by
  obtain ⟨c, hc, hn⟩ := o.at_
  exact hn (h c (List.mem_of_getElem? hc))
theorem take_mono {ws : List Str} {r : Str} {i j : Nat} (h : i ≤ j) (hg : bears ws (takeS r j) = false) : bears ws (takeS r i) = false := by
  refine bears_pre ?_ hg
  rw [ch_take, ch_take]
  exact (List.take_prefix_take_left h).isInfix
theorem Bad.one {ws : List Str} {r : Str} {n m : Nat} (a : Bad ws r n) (b : Bad ws r m) : n = m := by
  rcases Nat.lt_trichotomy n m with h | h | h
  · have := take_mono (j := m) (i := n + 1) h b.good
    rw [a.bad] at this; cases this
  · exact h
  · have := take_mono (j := n) (i := m + 1) h a.good
    rw [b.bad] at this; cases this
/-- a row that isn't good has a shortest beginning that isn't -/
theorem Bad.ex {ws : List Str} {r : Str} (hw : ∀ w ∈ ws, 1 ≤ w.length) (h : bears ws r = true) : ∃ n, Bad ws r n := by
  have key : ∀ m, m ≤ r.length → bears ws (takeS r m) = true → ∃ n, Bad ws r n := by
    intro m
    induction m with
    | zero => intro _ q; rw [take_zero, bears_nil hw] at q; cases q
    | succ m ih =>
      intro hm q
      cases e : bears ws (takeS r m) with
      | true => exact ih (by omega) e
      | false => exact ⟨m, by omega, e, q⟩
  exact key r.length (Nat.le_refl _) (by rw [take_all]; exact h)
/-- what is asked and answered -/
inductive Ask (g : Str) (ws ss : List Str) (r : Str) : Int → Int → L2.V → Prop where
  | out {i : Nat} {way : Int} (h : Out g r i) : Ask g ws ss r way 1 (.int (i : Nat))
  | good0 (h : Ins g r) : Ask g ws ss r 0 0 (.bl (!bears ws r))
  | good1 (h : Ins g r) (hb : bears ws r = false) : Ask g ws ss r 1 0 (.str (lend ss r))
  | bad {n : Nat} (h : Ins g r) (hb : Bad ws r n) : Ask g ws ss r 1 2 (.int ((n : Nat) + 1))
end Bs
namespace Sx
open PySem L2 Bs
/-- an error with one field -/
def NoX (CN : Addr) (nm : Str) (v : V) (H : Hp) (E : XK) : Prop := ∀ (d : Addr) (H' : Hp), Same H H' → H d = none → H' d = some (.xd [(nm, v)]) → E (.ref CN) (some d) H'
theorem none_of {H H' : Hp} {d : Addr} (s : Same H H') (h : H' d = none) : H d = none := by
  cases q : H d with
  | none => rfl
  | some o => rw [s _ _ q] at h; cases h
theorem NoX.same {CN : Addr} {nm : Str} {v : V} {H H' : Hp} {E : XK} (n : NoX CN nm v H E) (s : Same H H') : NoX CN nm v H' E := fun d H2 s2 h1 h2 => n d H2 (s.trans s2) (none_of s h1) h2
def okNum (v : V) : Prop := ∃ i : Int, v = .int i ∧ i.natAbs ≤ 1000
/-- a band made anew: what it needs lies at new addresses -/
def spInitF (K : PySem.W.Frag) (C : Addr) : Sp := fun vs H Q _ => ∃ (x dx : Addr) (g : Str) (a : Addr) (ws : List Str), vs = [.ref x, .str g, .ref a] ∧ H x = some (.ins C dx []) ∧ SqL K H a (ws.map V.str) ∧ Signs g ∧ ws.length ≤ 6 ∧ (∀ w ∈ ws, Word g w) ∧
  ∀ (ss ls : List Str) (H' : Hp), (∀ H'' : Hp, (∀ c o, H' c = some o → (H c = none ∨ c = x) → H'' c = some o) → BandAt C H'' x g ws ss ls) → (∀ b o, H b = some o → b ≠ x → H' b = some o) → Q .non H'
def spCheckRowE (C CN : Addr) : Sp := fun vs H Q E => ∃ (x : Addr) (r g : Str) (ws ss ls : List Str), vs = [.ref x, .str r] ∧ BandAt C H x g ws ss ls ∧ r.length ≤ 1000 ∧ ((Ins g r ∧ ∀ H', Same H H' → Q .non H') ∨ (∃ i, Out g r i ∧ NoX CN "number" (.int (i : Nat)) H E))
def spIsGoodE (C CN : Addr) : Sp := fun vs H Q E => ∃ (x : Addr) (r g : Str) (ws ss ls : List Str), vs = [.ref x, .str r] ∧ BandAt C H x g ws ss ls ∧ r.length ≤ 1000 ∧ ws.length ≤ 6 ∧ ((Ins g r ∧ ∀ H', Same H H' → Q (.bl (!bears ws r)) H') ∨ (∃ i, Out g r i ∧ NoX CN "number" (.int (i : Nat)) H E))
def spPlaceE (C CN CB : Addr) : Sp := fun vs H Q E => ∃ (x : Addr) (r g : Str) (ws ss ls : List Str), vs = [.ref x, .str r] ∧ BandAt C H x g ws ss ls ∧ r.length ≤ 1000 ∧ (∀ w ∈ ws, 1 ≤ w.length) ∧
  ((Ins g r ∧ bears ws r = false ∧ ∀ H', Same H H' → Q (.str (lend ss r)) H') ∨ (∃ n, Ins g r ∧ Bad ws r n ∧ NoX CB "length" (.int ((n : Nat) + 1)) H E) ∨ (∃ i, Out g r i ∧ NoX CN "number" (.int (i : Nat)) H E))
def spBadAt (K : PySem.W.Frag) : Sp := fun vs H Q _ => ∃ (r : Str) (a : Addr) (ws : List Str), vs = [.str r, .ref a] ∧ SqL K H a (ws.map V.str) ∧ ws.length ≤ 1000 ∧ r.length ≤ 1000 ∧ (∀ w ∈ ws, 1 ≤ w.length) ∧
  (bears ws r = false → Q .non H) ∧ (∀ n, Bad ws r n → Q (.int ((n : Nat) + 1)) H)
def spAsk (C : Addr) : Sp := fun vs H Q _ => ∃ (x : Addr) (r g : Str) (way : Int) (ws ss ls : List Str), vs = [.ref x, .str r, .int way] ∧ BandAt C H x g ws ss ls ∧ r.length ≤ 1000 ∧ ws.length ≤ 6 ∧ (∀ w ∈ ws, 1 ≤ w.length) ∧ (way = 0 ∨ way = 1) ∧ (Ins g r ∨ ∃ i, Out g r i) ∧
  ∀ (a : Int) (b : V) (p : Addr) (H' : Hp), Ask g ws ss r way a b → Same H H' → H' p = some (.tup [.int a, b]) → Q (.ref p) H'
def spRight (K : PySem.W.Frag) (C : Addr) : Sp := fun vs H Q _ => ∃ (x lw : Addr) (r g : Str) (o : V) (ws ss ls : List Str), vs = [.ref x, .str r, .ref lw, o] ∧ BandAt C H x g ws ss ls ∧ SqL K H lw (ws.map V.str) ∧ r.length ≤ 1000 ∧ ws.length ≤ 6 ∧ (∀ w ∈ ws, 1 ≤ w.length) ∧
  ((o = .non ∧ Ins g r) ∨ (∃ i : Nat, o = .int (i : Nat) ∧ Out g r i)) ∧ ∀ H', Same H H' → Q (.bl true) H'
def spRow2 (K : PySem.W.Frag) : Sp := fun vs H Q _ => ∃ (a : Addr) (ns : List Int) (g : Str), vs = [.ref a, .str g] ∧ SqL K H a (ns.map V.int) ∧ ns.length ≤ 63 ∧ Signs g ∧ ∀ (r : Str) (H' : Hp), Ins g r → r.length ≤ 200 → Same H H' → Q (.str r) H'
end Sx
namespace Bs
open PySem
end Bs
namespace Sx
open PySem L2 Bs
theorem look_barred (g : Str) (b d q : Addr) : (flds g b d q).lookup ("barred" : Str) = some (.ref b) := by
  rw [← put4, lookup_putF, if_neg (by decide +kernel), ← put3, lookup_putF, if_neg (by decide +kernel), ← put2, lookup_putF, if_pos rfl]
theorem refNon (a : Addr) : V.bl (decide (V.ref a = V.non)) = V.bl false := by simp
end Sx
namespace L2
open PySem
end L2

set_option Elab.async false
set_option linter.all false
set_option maxRecDepth 100000
set_option maxHeartbeats 4000000
namespace L2
open PySem PySem.Spec PyProof.Rows
section
variable {X : Cx}
theorem ints_items : ∀ {ns : List Int} {its : List Value}, Vals (ns.map V.int) its → ∃ xs : List (Int × Tok), its = xs.map (fun p => Value.int p.1 p.2) ∧ xs.map (·.1) = ns
  | [], its, r => by cases r; exact ⟨[], rfl, rfl⟩
  | n :: ns, its, r => by
    cases r with
    | cons h t =>
      obtain ⟨tk, rfl⟩ := h
      obtain ⟨xs, rfl, e⟩ := ints_items t
      exact ⟨(n, tk) :: xs, rfl, by rw [List.map_cons, e]⟩
end
end L2
/-! ### a loop over a dict: it is frozen -/
namespace L2
open PySem PySem.Spec PyProof.Rows
def Itd (d : Addr) (o : Obj) (kvs : List (Key × V)) : It := ⟨fun i H => H d = some (.frz o (.dK kvs)) ∧ i < kvs.length, fun i H x H' => H' = H ∧ ∃ kv, kvs[i]? = some kv ∧ x = kV kv.1, fun i H => H d = some (.frz o (.dK kvs)) ∧ kvs.length ≤ i⟩
section
variable {X : Cx} {tg : Expr}
def iDict (tl : TE) : TI := fun σ H R => tl σ H fun x H1 => ∃ d kvs, x = .ref d ∧ ((H1 d = some (.dK kvs) ∧ ∀ o, R (Itd d o kvs) (upd H1 d (.frz o (.dK kvs)))) ∨ ∃ o, H1 d = some (.frz o (.dK kvs)) ∧ R (Itd d o kvs) H1)
end
end L2

set_option Elab.async false
set_option linter.all false
set_option maxRecDepth 100000
set_option maxHeartbeats 4000000
namespace L2
open PySem Bs
theorem DGet.f {H : Hp} {a : Addr} {o : Obj} {kvs : List (Key × V)} {k : Key} (e : H a = some (.frz o (.dK kvs))) : DGet H a (kV k) (valV kvs k) := .inl ⟨kvs, k, .inr ⟨o, e⟩, rfl, rfl⟩
/-- the places to which signs lead -/
def endsOf (g : Str) (ws ss : List Str) (p : Str) : List Str := (ch g).filterMap fun c => if bears ws (p ++ ⟨#[c]⟩) = true then none else some (lend ss (p ++ ⟨#[c]⟩))
def notNon (v : V) : Bool := !decide (v = .non)
/-- how many good rows go on -/
def cntF (g : Str) (ws ss : List Str) : Nat → Str → Int
  | 0, _ => 1
  | n + 1, p => ((endsOf g ws ss p).map (cntF g ws ss n)).sum
/-- a dict from texts -/
def fRow (f : Str → V) (ks : List Str) : List (Key × V) := ks.map fun p => ((Sum.inr p : Key), f p)
abbrev cRow (g : Str) (ws ss : List Str) (n : Nat) : List (Key × V) := fRow (fun p => .int (cntF g ws ss n p)) ss
def gMv (ws ss : List Str) (p : Str) : V → V := fun v => match v with
  | .str z => mvV ws ss p (z.cps.getD 0 0)
  | _ => .non
def gCnt (f : Str → Int) : V → V := fun v => match v with
  | .str z => .int (f z)
  | _ => .non
end L2
namespace Sx
open PySem L2 Bs
def spEndsFrom (C : Addr) : Sp := fun vs H Q _ => ∃ (x : Addr) (p g : Str) (ws ss ls : List Str), vs = [.ref x, .str p] ∧ BandAt C H x g ws ss ls ∧ p ∈ ss ∧ g.length ≤ 10 ∧
  ∀ (l : Addr) (H' : Hp), Same H H' → H l = none → H' l = some (.lst ((endsOf g ws ss p).map V.str)) → Q (.ref l) H'
def spAllEnds (C : Addr) : Sp := fun vs H Q _ => ∃ (x : Addr) (g : Str) (ws ss ls : List Str), vs = [.ref x] ∧ BandAt C H x g ws ss ls ∧ g.length ≤ 10 ∧ ss.length ≤ 900 ∧
  ∀ (d : Addr) (ev : List (Str × Addr)) (H' : Hp), Same H H' → H d = none → H' d = some (.dK (dRows ev)) → ev.map (·.1) = ss → (∀ m ∈ ev, H' m.2 = some (.lst ((endsOf g ws ss m.1).map V.str))) → (∀ m ∈ ev, H m.2 = none) → Q (.ref d) H'
def spTable (C : Addr) : Sp := fun vs H Q _ => ∃ (x : Addr) (n : Int) (g : Str) (ws ss ls : List Str), vs = [.ref x, .int n] ∧ BandAt C H x g ws ss ls ∧ g.length ≤ 10 ∧ ss.length ≤ 900 ∧ 0 ≤ n ∧ n ≤ 100000 ∧
  ∀ (l : Addr) (ts : List Addr) (H' : Hp), Same H H' → H l = none → H' l = some (.lst (ts.map V.ref)) → ts.length = n.toNat + 1 → (∀ i t, ts[i]? = some t → H' t = some (.dK (cRow g ws ss i))) → Q (.ref l) H'
def spCountE (C CN : Addr) : Sp := fun vs H Q E => ∃ (x : Addr) (v : V) (n : Int) (g : Str) (ws ss ls : List Str), vs = [.ref x, v, .int n] ∧ BandAt C H x g ws ss ls ∧ g.length ≤ 10 ∧ ss.length ≤ 900 ∧ 0 ≤ n ∧ n ≤ 100000 ∧ Thing H v ∧
  ((∃ p, v = .str p ∧ p ∈ ss ∧ ∀ H', Same H H' → Q (.int (cntF g ws ss n.toNat p)) H') ∨ ((∀ p ∈ ss, v ≠ .str p) ∧ NoPl CN v H E))
def spCount (C : Addr) : Sp := fun vs H Q _ => ∃ (x : Addr) (n : Int) (g : Str) (ws ss ls : List Str), vs = [.ref x, .int n] ∧ BandAt C H x g ws ss ls ∧ g.length ≤ 10 ∧ ss.length ≤ 900 ∧ 0 ≤ n ∧ n ≤ 100000 ∧
  ∀ H', Same H H' → Q (.int (cntF g ws ss n.toNat "")) H'
end Sx
namespace L2
open PySem PySem.Spec PyProof.Rows
section
variable {X : Cx}
/-- x *= y -/
def ipM : TIp := fun x y H Q => ∃ i j, x = .int i ∧ y = .int j ∧ CMul i j ∧ Q (.int (i * j)) H
end
end L2
namespace Sx
open PySem L2 Bs
def spWhole0 : Sp := fun vs H Q _ => ∃ i : Int, vs = [.int i] ∧ Q (.bl true) H
def spAllRows (C : Addr) : Sp := fun vs H Q _ => ∃ (x : Addr) (n : Int) (g : Str) (ws ss ls : List Str), vs = [.ref x, .int n] ∧ BandAt C H x g ws ss ls ∧ g.length ≤ 10 ∧ 0 ≤ n ∧ n ≤ 10 ∧ Q (.int ((g.length : Int) ^ n.toNat)) H
/-- a rate of a band with so many signs -/
structure IsRate (m : Nat) (many wide : Int) : Prop where
  a : 2 ≤ many
  b : many ≤ 8
  c : 1 ≤ wide
  d : wide ≤ 6
  e : (m : Int) ^ wide.toNat ≤ 64
def spIsRate (C : Addr) : Sp := fun vs H Q _ => ∃ (x : Addr) (many wide : Int) (g : Str) (ws ss ls : List Str), vs = [.ref x, .int many, .int wide] ∧ BandAt C H x g ws ss ls ∧ g.length ≤ 10 ∧ IsRate g.length many wide ∧ Q (.bl true) H
def spScarce (C : Addr) : Sp := fun vs H Q _ => ∃ (x : Addr) (many wide most : Int) (g : Str) (ws ss ls : List Str), vs = [.ref x, .int many, .int wide, .int most] ∧ BandAt C H x g ws ss ls ∧ g.length ≤ 10 ∧ ss.length ≤ 900 ∧ IsRate g.length many wide ∧ 0 ≤ most ∧ most ≤ 100 ∧
  (∀ k : Nat, 1 ≤ k → (k : Int) ≤ most → cntF g ws ss (k * wide.toNat) "" < many ^ k → (∀ j : Nat, 1 ≤ j → j < k → ¬ cntF g ws ss (j * wide.toNat) "" < many ^ j) → ∀ H', Same H H' → Q (.int (k : Nat)) H') ∧
  ((∀ j : Nat, 1 ≤ j → (j : Int) ≤ most → ¬ cntF g ws ss (j * wide.toNat) "" < many ^ j) → ∀ H', Same H H' → Q .non H')
end Sx

set_option Elab.async false
set_option linter.all false
set_option maxRecDepth 100000
set_option maxHeartbeats 4000000
namespace L2
open PySem PySem.Spec PyProof.Rows
section
variable {X : Cx}
/-- two lists are unlike -/
def rNeL (K : PySem.W.Frag) : R2 := fun x y H Q => ∃ a b xs ys, x = .ref a ∧ y = .ref b ∧ SqL K H a xs ∧ SqL K H b ys ∧ xs.all flatV = true ∧ ys.all flatV = true ∧ Q (.bl (!eqVs xs ys)) H
theorem op_neL (hu : X.A.units < cLine) : OpR X (compareOp .NotEq) (rNeL X.K) := by
  intro pins s σ H x y v u Q I rx ry h
  obtain ⟨a, b, xs, ys, rfl, rfl, ha, hb, fx, fy, q⟩ := h
  cases rx
  cases ry
  obtain ⟨its, r1, p1, _⟩ := I.list ha
  obtain ⟨its2, r2, p2, _⟩ := I.list hb
  have e1 := r1.length
  have e2 := r2.length
  by_cases hl : xs.length = ys.length
  · refine SeqAt.RcNeAt.lists (e := fun j => eqV (xs.getD j .non) (ys.getD j .non)) p1.isList p2.isList (by simp only [List.size_toArray]; omega) hu (fun j h1 h2 => ?_) X.prog X.w _ _ ?_
    · have h1' : j < its.length := by simpa using h1
      have h2' : j < its2.length := by simpa using h2
      have hx : xs[j]? = some (xs.getD j .non) := by rw [List.getD_eq_getElem?_getD]; simp [show j < xs.length by omega]
      have hy : ys[j]? = some (ys.getD j .non) := by rw [List.getD_eq_getElem?_getD]; simp [show j < ys.length by omega]
      obtain ⟨u1, q1, w1⟩ := r1.get hx
      obtain ⟨u2, q2, w2⟩ := r2.get hy
      have g1 : its.toArray[j] = u1 := by
        have : its[j]? = some its[j] := by simp [h1']
        rw [this] at q1
        simpa using Option.some.inj q1
      have g2 : its2.toArray[j] = u2 := by
        have : its2[j]? = some its2[j] := by simp [h2']
        rw [this] at q2
        simpa using Option.some.inj q2
      rw [g1, g2]
      exact eqAt_V w1 w2 (List.all_eq_true.mp fx _ (List.mem_of_getElem? hx)) (List.all_eq_true.mp fy _ (List.mem_of_getElem? hy))
    · rw [eqVs_range hl] at q
      refine ⟨.bl _, H, I, rfl, ?_⟩
      rw [List.size_toArray, ← e1]
      exact q
  · refine SeqAt.RcNeAt.lists_lengths p1.isList p2.isList (by simp only [List.size_toArray, bne_iff_ne]; omega) hu X.prog X.w _ _ ⟨.bl true, H, I, rfl, ?_⟩
    rw [eqVs_len hl] at q
    exact q
/-- max of a list of ints -/
theorem call_max1 (hc : X.calm = true) : CallR X (.builtin "max") (fun xs H Q => ∃ p ns, xs = [.ref p] ∧ SqL X.K H p (List.map V.int ns) ∧ ns ≠ [] ∧ ∀ M, M ∈ ns → (∀ a ∈ ns, a ≤ M) → Q (.int M) H) := by
  intro pins s σ H xs us Q I r h
  obtain ⟨p, ns, rfl, hq, hne, q⟩ := h
  obtain ⟨u, rfl, rx⟩ := vals1 r
  cases rx
  obtain ⟨its, rv, pl, hz⟩ := I.list hq
  obtain ⟨ys, e, rfl⟩ := ints_items rv
  have hl : s.heap.IsList p (intItems ys.toArray) := by
    have : intItems ys.toArray = its.toArray := by rw [e]; unfold intItems; simp
    rw [this]
    exact pl.isList
  have hsz : 0 < ys.toArray.size := by
    rw [List.size_toArray]
    exact Nat.pos_of_ne_zero fun z => hne (by rw [List.eq_nil_of_length_eq_zero z]; rfl)
  refine max_intList (I.ok.hd hc) hl hsz fun v h' tk hv hk => ?_
  obtain ⟨t, rfl⟩ := intItems_at hv
  obtain ⟨h1, h2⟩ := argBest_gt (numAt ys.toArray) (ys.toArray.size - 1)
  refine ⟨.int _, H, I.kept hk, ⟨t, rfl⟩, q _ ?_ fun a ha => ?_⟩
  · rw [numAt_eq]
    exact getD_mem (by rw [List.length_map]; simp only [List.size_toArray] at *; omega)
  · obtain ⟨j, hj, rfl⟩ := mem_getD ha
    rw [List.length_map] at hj
    have := h2 j (by simp only [List.size_toArray] at *; omega)
    rw [numAt_eq] at this
    exact this
end
end L2
namespace Bs
open PySem L2
/-- letters of the pool, from one on, in steps -/
def ltsOf (st sp n : Nat) : List Nat := (List.range n).map fun k => (ch poolS).getD ((st + k * sp) % 36) 0
def gLet (st sp : Nat) : V → V := fun v => match v with
  | .int k => .str ⟨#[(ch poolS).getD ((st + k.toNat * sp) % 36) 0]⟩
  | _ => .non
end Bs
namespace Sx
open PySem L2 Bs
def spNth (K : PySem.W.Frag) : Sp := fun vs H Q _ => ∃ (a : Addr) (ns : List Int) (p : Int), vs = [.ref a, .int p] ∧ SqL K H a (ns.map V.int) ∧ ∀ (c : Int) (H' : Hp), Same H H' → Q (.int c) H'
/-- words of at most so many signs -/
def spWordsM (K : PySem.W.Frag) : Sp := fun vs H Q _ => ∃ (a : Addr) (ns : List Int) (p : Int) (g : Str) (m n : Int), vs = [.ref a, .int p, .str g, .int m, .int n] ∧ SqL K H a (ns.map V.int) ∧ 0 ≤ m ∧ m ≤ 100 ∧ 1 ≤ n ∧ n ≤ 5 ∧ 1 ≤ g.length ∧ g.length ≤ 4 ∧
  ∀ (l : Addr) (ws : List Str) (H' : Hp), Same H H' → H l = none → H' l = some (.lst (ws.map V.str)) → ws.length ≤ 4 → (∀ w ∈ ws, Word g w ∧ (w.length : Int) ≤ n) → Q (.ref l) H'
def spRate : Sp := fun vs H Q _ => ∃ (c : Int) (g : Str), vs = [.int c, .str g] ∧ 2 ≤ g.length ∧ g.length ≤ 4 ∧
  ∀ (p : Addr) (many wide : Int) (H' : Hp), Same H H' → H p = none → H' p = some (.tup [.int many, .int wide]) → IsRate g.length many wide → Q (.ref p) H'
end Sx

set_option Elab.async false
set_option linter.all false
set_option maxRecDepth 100000
set_option maxHeartbeats 4000000
namespace Bs
def lastN (k : Nat) (l : List Nat) : List Nat := l.drop (l.length - k)
theorem lastN_suf (k : Nat) (l : List Nat) : lastN k l <:+ l := List.drop_suffix _ _
theorem lastN_len (k : Nat) (l : List Nat) : (lastN k l).length ≤ k := by unfold lastN; rw [List.length_drop]; omega
theorem nodup_le {α : Type} [DecidableEq α] : ∀ {ks l : List α}, ks.Nodup → (∀ k ∈ ks, k ∈ l) → ks.length ≤ l.length
  | [], l, _, _ => Nat.zero_le _
  | k :: ks, l, nd, h => by
    rw [List.nodup_cons] at nd
    have hk := h k (List.mem_cons_self ..)
    have := nodup_le (l := l.erase k) nd.2 fun j hj => (List.mem_erase_of_ne (fun z => nd.1 (by rw [← z]; exact hj))).mpr (h j (List.mem_cons_of_mem _ hj))
    rw [List.length_erase_of_mem hk] at this
    have : 0 < l.length := List.length_pos_of_mem hk
    rw [List.length_cons]
    omega
def textsL (cs : List Nat) : Nat → List (List Nat)
  | 0 => [[]]
  | n + 1 => [] :: cs.flatMap fun c => (textsL cs n).map (c :: ·)
theorem mem_texts (cs : List Nat) : ∀ (n : Nat) (l : List Nat), l.length ≤ n → (∀ c ∈ l, c ∈ cs) → l ∈ textsL cs n
  | 0, l, h, _ => by
    rw [List.eq_nil_of_length_eq_zero (Nat.le_zero.mp h)]
    exact List.mem_singleton.mpr rfl
  | n + 1, [], _, _ => List.mem_cons_self ..
  | n + 1, c :: l, h, hc => by
    refine List.mem_cons_of_mem _ (List.mem_flatMap.mpr ⟨c, hc c (List.mem_cons_self ..), List.mem_map.mpr ⟨l, ?_, rfl⟩⟩)
    exact mem_texts cs n l (by rw [List.length_cons] at h; omega) fun d hd => hc d (List.mem_cons_of_mem _ hd)
theorem flat_len {α β : Type} (f : α → List β) (b : Nat) : ∀ (cs : List α), (∀ c ∈ cs, (f c).length ≤ b) → (cs.flatMap f).length ≤ cs.length * b
  | [], _ => Nat.zero_le _
  | c :: cs, h => by
    rw [List.flatMap_cons, List.length_append, List.length_cons, Nat.succ_mul]
    have := flat_len f b cs fun d hd => h d (List.mem_cons_of_mem _ hd)
    have := h c (List.mem_cons_self ..)
    omega
theorem texts_len (cs : List Nat) (h : cs.length ≤ 4) : ∀ n b b', (textsL cs n).length ≤ b → b' = 1 + 4 * b → (textsL cs (n + 1)).length ≤ b' := by
  intro n b b' hb hb'
  unfold textsL
  rw [List.length_cons]
  have h1 := flat_len (fun c => (textsL cs n).map (c :: ·)) b cs fun c _ => by rw [List.length_map]; exact hb
  have h2 : cs.length * b ≤ 4 * b := Nat.mul_le_mul_right _ h
  omega
theorem texts4 (cs : List Nat) (h : cs.length ≤ 4) : (textsL cs 4).length ≤ 341 :=
  texts_len cs h 3 85 _ (texts_len cs h 2 21 _ (texts_len cs h 1 5 _ (texts_len cs h 0 1 _ (Nat.le_refl 1) rfl) rfl) rfl) rfl
section
variable {κ : Type} [DecidableEq κ]
def bump : List (κ × Int) → κ → Int → List (κ × Int)
  | [], k, v => [(k, v)]
  | (j, u) :: m, k, v => if j = k then (j, u + v) :: m else (j, u) :: bump m k v
def wsum (F : κ → Int) (m : List (κ × Int)) : Int := (m.map fun p => p.2 * F p.1).sum
theorem bump_keys (k : κ) (v : Int) : ∀ m : List (κ × Int), (bump m k v).map (·.1) = if k ∈ m.map (·.1) then m.map (·.1) else m.map (·.1) ++ [k]
  | [] => rfl
  | (j, u) :: m => by
    unfold bump
    by_cases h : j = k
    · rw [if_pos h, if_pos (by rw [List.map_cons, h]; exact List.mem_cons_self ..)]
      rfl
    · rw [if_neg h, List.map_cons, bump_keys k v m, List.map_cons]
      by_cases hk : k ∈ m.map (·.1)
      · rw [if_pos hk, if_pos (List.mem_cons_of_mem _ hk)]
      · rw [if_neg hk, if_neg]
        · rfl
        · intro z
          rcases List.mem_cons.mp z with z | z
          · exact h z.symm
          · exact hk z
end
end Bs

namespace Bs
open PySem L2 AC
variable {ws ss : List Str}
def keyC (L : Nat) (r : Str) : Str := dropS r (r.length - (L - 1))
theorem ch_keyC (L : Nat) (r : Str) : ch (keyC L r) = lastN (L - 1) (ch r) := by unfold keyC lastN; rw [ch_drop, len_ch]
/-- one more row -/
def addC (ws : List Str) (L : Nat) (e : Str) (v : Int) (m : List (Str × Int)) (c : Nat) : List (Str × Int) := if bears ws (e ++ ⟨#[c]⟩) = true then m else bump m (keyC L (e ++ ⟨#[c]⟩)) v
def innC (g : Str) (ws : List Str) (L : Nat) (m : List (Str × Int)) (p : Str × Int) : List (Str × Int) := (ch g).foldl (addC ws L p.1 p.2) m
def stepC (g : Str) (ws : List Str) (L : Nat) (hs : List (Str × Int)) : List (Str × Int) := hs.foldl (innC g ws L) []
def hereC (g : Str) (ws : List Str) (L : Nat) : Nat → List (Str × Int)
  | 0 => [("", 1)]
  | n + 1 => stepC g ws L (hereC g ws L n)
def goC (ws : List Str) (L : Nat) (F : Str → Int) (e : Str) (c : Nat) : Int := if bears ws (e ++ ⟨#[c]⟩) = true then 0 else F (keyC L (e ++ ⟨#[c]⟩))
def LwF (g : Str) (ws : List Str) (L : Nat) : Nat → Str → Int
  | 0, _ => 1
  | n + 1, e => ((ch g).map (goC ws L (LwF g ws L n) e)).sum
/-- keys: each once, short, of the signs -/
structure KeysOk (g : Str) (L : Nat) (m : List (Str × Int)) : Prop where
  nd : (m.map (·.1)).Nodup
  sh : ∀ k ∈ m.map (·.1), (∀ c ∈ ch k, c ∈ ch g) ∧ k.length ≤ L - 1
theorem KeysOk.nil (g : Str) (L : Nat) : KeysOk g L [] := ⟨List.nodup_nil, fun k h => nomatch h⟩
theorem KeysOk.bump {g : Str} {L : Nat} {m : List (Str × Int)} (h : KeysOk g L m) {k : Str} {v : Int} (hk : (∀ c ∈ ch k, c ∈ ch g) ∧ k.length ≤ L - 1) : KeysOk g L (bump m k v) := by
  by_cases hm : k ∈ m.map (·.1)
  · exact ⟨by rw [bump_keys, if_pos hm]; exact h.nd, by rw [bump_keys, if_pos hm]; exact h.sh⟩
  · refine ⟨?_, ?_⟩
    · rw [bump_keys, if_neg hm]
      exact List.nodup_append.mpr ⟨h.nd, List.nodup_cons.mpr ⟨fun z => (nomatch z), List.nodup_nil⟩, fun a ha b hb z => hm (by rw [← List.mem_singleton.mp hb, ← z]; exact ha)⟩
    · rw [bump_keys, if_neg hm]
      intro j hj
      rcases List.mem_append.mp hj with z | z
      · exact h.sh j z
      · rw [List.mem_singleton.mp z]
        exact hk
theorem key_short {g : Str} {L : Nat} {e : Str} {c : Nat} (he : ∀ c ∈ ch e, c ∈ ch g) (hc : c ∈ ch g) : (∀ d ∈ ch (keyC L (e ++ ⟨#[c]⟩)), d ∈ ch g) ∧ (keyC L (e ++ ⟨#[c]⟩)).length ≤ L - 1 := by
  refine ⟨fun d hd => ?_, by rw [← len_ch, ch_keyC]; exact lastN_len _ _⟩
  rw [ch_keyC] at hd
  have := (lastN_suf _ _).subset hd
  rw [ch_append] at this
  rcases List.mem_append.mp this with z | z
  · exact he d z
  · rw [ch_one] at z
    rw [List.mem_singleton.mp z]
    exact hc
theorem KeysOk.add {g : Str} {L : Nat} {m : List (Str × Int)} (h : KeysOk g L m) {e : Str} {v : Int} {c : Nat} (he : ∀ c ∈ ch e, c ∈ ch g) (hc : c ∈ ch g) : KeysOk g L (addC ws L e v m c) := by
  unfold addC
  split
  · exact h
  · exact h.bump (key_short he hc)
theorem KeysOk.fold {g : Str} {L : Nat} {e : Str} {v : Int} (he : ∀ c ∈ ch e, c ∈ ch g) : ∀ {cs : List Nat} {m : List (Str × Int)}, KeysOk g L m → (∀ c ∈ cs, c ∈ ch g) → KeysOk g L (cs.foldl (addC ws L e v) m)
  | [], m, h, _ => h
  | c :: cs, m, h, hc => KeysOk.fold (cs := cs) he (h.add he (hc c (List.mem_cons_self ..))) fun d hd => hc d (List.mem_cons_of_mem _ hd)
theorem KeysOk.steps {g : Str} {L : Nat} : ∀ {hs m : List (Str × Int)}, KeysOk g L m → (∀ p ∈ hs, ∀ c ∈ ch p.1, c ∈ ch g) → KeysOk g L (hs.foldl (innC g ws L) m)
  | [], m, h, _ => h
  | p :: hs, m, h, hc => KeysOk.steps (hs := hs) (KeysOk.fold (hc p (List.mem_cons_self ..)) h fun c hc => hc) fun q hq => hc q (List.mem_cons_of_mem _ hq)
theorem KeysOk.here {g : Str} {L : Nat} : ∀ n, KeysOk g L (hereC g ws L n)
  | 0 => ⟨List.nodup_cons.mpr ⟨fun z => (nomatch z), List.nodup_nil⟩, fun k hk => by
      rw [List.mem_singleton.mp hk]
      exact ⟨fun c hc => (nomatch hc), Nat.zero_le _⟩⟩
  | n + 1 => KeysOk.steps (KeysOk.nil g L) fun p hp => ((KeysOk.here n).sh p.1 (List.mem_map.mpr ⟨p, hp, rfl⟩)).1
theorem KeysOk.len {g : Str} {L : Nat} {m : List (Str × Int)} (h : KeysOk g L m) (hg : g.length ≤ 4) (hL : L ≤ 5) : m.length ≤ 341 := by
  have h1 : ((m.map (·.1)).map ch).Nodup := by
    refine List.Pairwise.map _ ?_ h.nd
    intro a b hab z
    exact hab (ext_ch z)
  have h2 := nodup_le (l := textsL (ch g) 4) h1 fun k hk => by
    obtain ⟨x, hx, rfl⟩ := List.mem_map.mp hk
    obtain ⟨a, b⟩ := h.sh x hx
    exact mem_texts _ _ _ (by rw [len_ch]; omega) a
  have h3 := texts4 (ch g) (by rw [len_ch]; exact hg)
  rw [List.length_map, List.length_map] at h2
  omega
/-- such a dict -/
def iRows (m : List (Str × Int)) : List (Key × V) := m.map fun p => ((Sum.inr p.1 : Key), V.int p.2)
def lookI : List (Str × Int) → Str → Option Int
  | [], _ => none
  | (j, u) :: m, k => if j = k then some u else lookI m k
def gPair (m : List (Str × Int)) : V → V := fun v => match v with
  | .str k => .int ((lookI m k).getD 0)
  | _ => .non
end Bs
namespace L2
open PySem
end L2
namespace Sx
open PySem L2 Bs
def spCounted : Sp := fun vs H Q _ => ∃ (g : Str) (lw : Addr) (ws ss : List Str) (L n : Nat), vs = [.str g, .ref lw, .int (L : Int), .int (n : Int)] ∧ H lw = some (.lst (ws.map V.str)) ∧ g.length ≤ 4 ∧ 1 ≤ L ∧ L ≤ 5 ∧ n ≤ 1000 ∧ ws.length ≤ 6 ∧ (∀ w ∈ ws, 1 ≤ w.length) ∧ (∀ w ∈ ws, w.length ≤ L) ∧ ss.Perm (keysS ws "" ws) ∧
  ∀ (l : Addr) (H' : Hp), Same H H' → H l = none → H' l = some (.lst ((List.range (n + 1)).map fun i => V.int (cntF g ws ss i ""))) → Q (.ref l) H'
def spLeast (K : PySem.W.Frag) : Sp := fun vs H Q _ => ∃ (l : Addr) (f : Nat → Int) (many : Int) (w n : Nat), vs = [.ref l, .int many, .int (w : Int), .int (n : Int)] ∧ SqL K H l ((List.range (n * w + 1)).map fun i => V.int (f i)) ∧ 2 ≤ many ∧ many ≤ 8 ∧ n ≤ 100 ∧ w ≤ 6 ∧
  (∀ k : Nat, 1 ≤ k → k ≤ n → f (k * w) < many ^ k → (∀ j : Nat, 1 ≤ j → j < k → ¬ f (j * w) < many ^ j) → Q (.int (k : Nat)) H) ∧
  ((∀ j : Nat, 1 ≤ j → j ≤ n → ¬ f (j * w) < many ^ j) → Q .non H)
end Sx

set_option Elab.async false
set_option linter.all false
set_option maxRecDepth 100000
set_option maxHeartbeats 4000000
namespace L2
open PySem PySem.Spec PyProof.Rows
/-- a block of two names, turn by turn -/
def CompW2 (K : PySem.W.Frag) (J : It) (l : Addr) (σf : St) (tt : TT) (te : TE) (H : Hp) (Q : Hp → Prop) : Prop :=
  ∃ W : Nat → Nat → List V → Hp → Prop, (∃ m, W 0 m [] (upd H l (.lst []))) ∧ ∀ i m ys H2, W i m ys H2 → H2 l = some (.lst ys) ∧
    ((J.stop i H2 ∧ Q H2) ∨ (J.go i H2 ∧ ys.length < sizeLine ∧ ∀ x H3, J.yld i H2 x H3 → ∃ p a b, x = .ref p ∧ SqT K H3 p [a, b] ∧ tt (some a :: some b :: σf) H3 fun ok H4 =>
      if ok = true then te (some a :: some b :: σf) H4 fun y H5 => H5 l = some (.lst ys) ∧ ∃ m', m' < m ∧ W (i + 1) m' (ys ++ [y]) (upd H5 l (.lst (ys ++ [y])))
      else ∃ m', m' < m ∧ W (i + 1) m' ys H4))
def tComp2 (K : PySem.W.Frag) (wi : TI) (ix : List Nat) (tt : TT) (te : TE) : TE := fun σ H Q => wi σ H fun J H1 => ∀ l, H1 l = none → CompW2 K J l (pick σ ix) tt te H1 (fun H2 => Q (.ref l) H2)
section
variable {X : Cx} {pins : List (Addr × Obj)} {σ : St} {H : Hp} {s₂ : Shared} {scope : Scope} {x x2 : Str} {ys : List Str} {ix : List Nat} {cl : List (Str × Addr)} {fp : List Addr} {L : Addr}

end
/-- refs of tuples -/
def TupsAt (H : Hp) (rs : List Addr) (xss : List (List V)) : Prop := rs.length = xss.length ∧ ∀ (i : Nat) (r : Addr) (xs : List V), rs[i]? = some r → xss[i]? = some xs → H r = some (.tup xs)
theorem TupsAt.nil (H : Hp) : TupsAt H [] [] := ⟨rfl, fun i r xs h => by simp at h⟩
theorem TupsAt.keep {H H' : Hp} {rs : List Addr} {xss : List (List V)} (t : TupsAt H rs xss) (k : ∀ r xs, H r = some (.tup xs) → H' r = some (.tup xs)) : TupsAt H' rs xss := ⟨t.1, fun i r xs h1 h2 => k _ _ (t.2 i r xs h1 h2)⟩
theorem TupsAt.same {H H' : Hp} {rs : List Addr} {xss : List (List V)} (t : TupsAt H rs xss) (s : Same H H') : TupsAt H' rs xss := t.keep fun r xs h => s _ _ h
theorem TupsAt.snoc {H : Hp} {rs : List Addr} {xss : List (List V)} {r : Addr} {xs : List V} (t : TupsAt H rs xss) (h : H r = some (.tup xs)) : TupsAt H (rs ++ [r]) (xss ++ [xs]) := by
  refine ⟨by rw [List.length_append, List.length_append, t.1]; rfl, fun i a b h1 h2 => ?_⟩
  by_cases hi : i < rs.length
  · rw [List.getElem?_append_left hi] at h1
    rw [List.getElem?_append_left (by rw [← t.1]; exact hi)] at h2
    exact t.2 i a b h1 h2
  · have hi2 : i = rs.length := by
      have := (List.getElem?_eq_some_iff.mp h1).1
      rw [List.length_append, List.length_singleton] at this
      omega
    subst hi2
    rw [List.getElem?_append_right (Nat.le_refl _), Nat.sub_self] at h1
    rw [List.getElem?_append_right (by rw [t.1]; exact Nat.le_refl _), t.1, Nat.sub_self] at h2
    cases h1
    cases h2
    exact h
theorem TupsAt.mem {H : Hp} {rs : List Addr} {xss : List (List V)} (t : TupsAt H rs xss) {r : Addr} (h : r ∈ rs) : ∃ xs ∈ xss, H r = some (.tup xs) := by
  obtain ⟨i, hi, e⟩ := List.mem_iff_getElem.mp h
  have hi2 : i < xss.length := by rw [← t.1]; exact hi
  exact ⟨xss[i], List.getElem_mem hi2, t.2 i r _ (by rw [List.getElem?_eq_getElem hi, e]) (List.getElem?_eq_getElem hi2)⟩
def pairL (q : V × V) : List V := [q.1, q.2]
end L2

set_option Elab.async false
set_option linter.all false
set_option maxRecDepth 100000
set_option maxHeartbeats 4000000
namespace L2
open PySem PySem.Spec PyProof.Rows
theorem Rd.same {H H' : Hp} {a : Addr} {u : HO} (h : Rd H a u) (s : Same H H') : Rd H' a u := by
  rcases h with h | ⟨o, h⟩
  · exact .inl (s _ _ h)
  · exact .inr ⟨o, s _ _ h⟩
theorem DGet.rd {H : Hp} {a : Addr} {kvs : List (Key × V)} {k : Key} (e : Rd H a (.dK kvs)) : DGet H a (kV k) (valV kvs k) := .inl ⟨kvs, k, e, rfl, rfl⟩
/-- a dict that is no more changed -/
def tFrz (te : TE) : TE := fun σ H Q => te σ H fun x H1 => ∃ d kvs, x = .ref d ∧ H1 d = some (.dK kvs) ∧ ∀ o, Q x (upd H1 d (.frz o (.dK kvs)))
/-- a loop over a dict, frozen or not -/
def iDictE (tl : TE) : TI := fun σ H R => tl σ H fun x H1 => ∃ d kvs, x = .ref d ∧ (H1 d = some (.dK kvs) ∨ ∃ o, H1 d = some (.frz o (.dK kvs))) ∧ ∀ o H', H' d = some (.frz o (.dK kvs)) → (∀ c, c ≠ d → H' c = H1 c) → R (Itd d o kvs) H'
/-- each key of the one has a like value in the other -/
def hitsD (kb ka : List (Key × V)) : Bool := ka.all fun kv => match valV kb kv.1 with
  | some y => eqV kv.2 y
  | none => false
def eqD (ka kb : List (Key × V)) : Bool := ka.length == kb.length && hitsD kb ka
def flatD (kvs : List (Key × V)) : Bool := kvs.all fun kv => flatV kv.2
section
variable {X : Cx} {A : Around} {s : Shared}
def rEqD : R2 := fun x y H Q => ∃ a b ka kb, x = .ref a ∧ y = .ref b ∧ Rd H a (.dK ka) ∧ Rd H b (.dK kb) ∧ flatD ka = true ∧ flatD kb = true ∧ Q (.bl (eqD ka kb)) H
def rNeD : R2 := fun x y H Q => ∃ a b ka kb, x = .ref a ∧ y = .ref b ∧ Rd H a (.dK ka) ∧ Rd H b (.dK kb) ∧ flatD ka = true ∧ flatD kb = true ∧ Q (.bl (!eqD ka kb)) H
end
end L2

set_option Elab.async false
set_option linter.all false
set_option maxRecDepth 100000
set_option maxHeartbeats 4000000
namespace Bs
open PySem L2
/-- rows made longer by a sign -/
def blkOne (g : Str) (ws ss : List Str) (q : Str × Str) : List (Str × Str) := (ch g).filterMap fun c => if bears ws (q.2 ++ ⟨#[c]⟩) = true then none else some (q.1 ++ ⟨#[c]⟩, lend ss (q.2 ++ ⟨#[c]⟩))
def blkStep (g : Str) (ws ss : List Str) (qs : List (Str × Str)) : List (Str × Str) := qs.flatMap (blkOne g ws ss)
def blkN (g : Str) (ws ss : List Str) (p : Str) : Nat → List (Str × Str)
  | 0 => [("", p)]
  | n + 1 => blkStep g ws ss (blkN g ws ss p n)
def blocksOf (g : Str) (ws ss ls : List Str) (n : Nat) (p : Str) : List (Str × Str) := (blkN g ws ss p n).filter fun q => decide (q.2 ∈ ls)
def pairV (q : Str × Str) : List V := [.str q.1, .str q.2]
def pairQ (q : Str × Str) : V × V := (.str q.1, .str q.2)
/-- a list of such pairs -/
structure RowsAt (H : Hp) (l : Addr) (rs : List Addr) (qs : List (Str × Str)) : Prop where
  l : H l = some (.lst (rs.map V.ref))
  t : TupsAt H rs (qs.map pairV)
theorem RowsAt.same {H H' : Hp} {l : Addr} {rs : List Addr} {qs : List (Str × Str)} (r : RowsAt H l rs qs) (s : Same H H') : RowsAt H' l rs qs := ⟨s _ _ r.l, r.t.same s⟩
theorem RowsAt.len {H : Hp} {l : Addr} {rs : List Addr} {qs : List (Str × Str)} (r : RowsAt H l rs qs) : rs.length = qs.length := by rw [r.t.1, List.length_map]
theorem RowsAt.push {H : Hp} {l : Addr} {rs : List Addr} {qs : List (Str × Str)} (R : RowsAt H l rs qs) {r : Addr} (hr : H r = none) (q : Str × Str) : RowsAt (upd (upd H r (.tup (pairV q))) l (.lst (rs.map V.ref ++ [.ref r]))) l (rs ++ [r]) (qs ++ [q]) := by
  have hl : (upd H r (.tup (pairV q))) l = some (.lst (rs.map V.ref)) := Same.upd hr _ _ R.l
  refine ⟨by rw [upd_same, List.map_append]; rfl, ?_⟩
  rw [List.map_append]
  refine TupsAt.keep ((R.t.same (Same.upd hr)).snoc upd_same) fun r' xs h => ?_
  rw [upd_ne (fun z => by rw [z, hl] at h; cases h)]
  exact h
theorem RowsAt.upd {H : Hp} {l : Addr} {rs : List Addr} {qs : List (Str × Str)} (R : RowsAt H l rs qs) {d : Addr} {kvs : List (Key × V)} {u : HO} (h : H d = some (.dK kvs)) : RowsAt (L2.upd H d u) l rs qs := by
  refine ⟨?_, R.t.keep fun r xs hr => ?_⟩
  · rw [upd_ne (fun z => by have := R.l; rw [z, h] at this; cases this)]
    exact R.l
  · rw [upd_ne (fun z => by rw [z, h] at hr; cases hr)]
    exact hr
/-- what the blocks' ends weigh -/
def borne (g : Str) (ws ss ls : List Str) (n : Nat) (f : Str → Int) (p : Str) : Int := ((blocksOf g ws ss ls n p).map fun q => f q.2).sum
def fitsB (g : Str) (ws ss ls : List Str) (many : Int) (n : Nat) (f : Str → Int) : Bool := ls.all fun p => decide (many * f p ≤ borne g ws ss ls n f p)
/-- weights: a dict from places to numbers -/
def WtOk (m : List (Str × Int)) (ls : List Str) (f : Str → Int) : Prop := ∀ p ∈ ls, lookI m p = some (f p)
/-- a number for each place -/
def ofW (m : List (Str × Int)) (p : Str) : Int := (lookI m p).getD 0
theorem lookI_some {m : List (Str × Int)} {k : Str} (h : k ∈ m.map (·.1)) : lookI m k = some (ofW m k) := by
  unfold ofW
  induction m with
  | nil => exact nomatch h
  | cons p m ih =>
    obtain ⟨j, u⟩ := p
    unfold lookI
    by_cases e : j = k
    · rw [if_pos e]
      rfl
    · rw [if_neg e]
      refine ih ?_
      rcases List.mem_cons.mp h with z | z
      · exact absurd z.symm e
      · exact z
theorem WtOk.of {m : List (Str × Int)} {ls : List Str} (h : m.map (·.1) = ls) : WtOk m ls (ofW m) := fun p hp => lookI_some (by rw [h]; exact hp)
/-- the blocks of all places, told -/
structure BlksAt (H : Hp) (db : Addr) (o : Obj) (ev : List (Str × Addr)) (Bf : Str → List (Str × Str)) (ls : List Str) : Prop where
  d : H db = some (.frz o (.dK (dRows ev)))
  k : ev.map (·.1) = ls
  r : ∀ q ∈ ev, ∃ rs, RowsAt H q.2 rs (Bf q.1)
  e : ∀ p, ∀ q ∈ Bf p, q.2 ∈ ls
  n : ∀ p, (Bf p).length ≤ 1000
  nd : ls.Nodup
  few : ls.length ≤ 60
theorem BlksAt.same {H H' : Hp} {db : Addr} {o : Obj} {ev : List (Str × Addr)} {Bf : Str → List (Str × Str)} {ls : List Str} (b : BlksAt H db o ev Bf ls) (s : Same H H') : BlksAt H' db o ev Bf ls :=
  ⟨s _ _ b.d, b.k, fun q hq => let ⟨rs, h⟩ := b.r q hq; ⟨rs, h.same s⟩, b.e, b.n, b.nd, b.few⟩
end Bs
namespace Sx
open PySem L2 Bs
def spLBlocks (C : Addr) : Sp := fun vs H Q _ => ∃ (x : Addr) (n : Nat) (g : Str) (ws ss ls : List Str), vs = [.ref x, .int (n : Int)] ∧ BandAt C H x g ws ss ls ∧ g.length ^ n ≤ 100 ∧ n ≤ 10 ∧ 2 ≤ g.length ∧ g.length ≤ 10 ∧ ss.length ≤ 900 ∧
  ∀ (d : Addr) (ev : List (Str × Addr)) (H' : Hp), Same H H' → H d = none → H' d = some (.dK (dRows ev)) → ev.map (·.1) = ls → (∀ m ∈ ev, ∃ rs, RowsAt H' m.2 rs (blocksOf g ws ss ls n m.1)) → (∀ m ∈ ev, H m.2 = none) → Q (.ref d) H'
def spBorne : Sp := fun vs H Q _ => ∃ (db d : Addr) (p : Str) (o : Obj) (ev : List (Str × Addr)) (Bf : Str → List (Str × Str)) (ls : List Str) (m : List (Str × Int)) (f : Str → Int), vs = [.ref db, .str p, .ref d] ∧ BlksAt H db o ev Bf ls ∧ p ∈ ls ∧ Rd H d (.dK (iRows m)) ∧ WtOk m ls f ∧ ∀ H', Same H H' → Q (.int (((Bf p).map fun q => f q.2).sum)) H'
def spSettled : Sp := fun vs H Q _ => ∃ (db dw : Addr) (many t : Int) (o : Obj) (ev : List (Str × Addr)) (Bf : Str → List (Str × Str)) (ls : List Str) (m : List (Str × Int)), vs = [.ref db, .int many, .ref dw, .int t] ∧ BlksAt H db o ev Bf ls ∧ 2 ≤ many ∧ many ≤ 8 ∧ t ≤ 100000 ∧ 0 ≤ t ∧ H dw = some (.dK (iRows m)) ∧ m.map (·.1) = ls ∧
  ∀ (d' : Addr) (m' : List (Str × Int)) (H' : Hp), Same H H' → H' d' = some (.dK (iRows m')) → m'.map (·.1) = ls → Q (.ref d') H'
def spWts : Sp := fun vs H Q _ => ∃ (c : Int) (db : Addr) (many : Int) (o : Obj) (ev : List (Str × Addr)) (Bf : Str → List (Str × Str)) (ls : List Str), vs = [.int c, .ref db, .int many] ∧ BlksAt H db o ev Bf ls ∧ 2 ≤ many ∧ many ≤ 8 ∧
  ∀ (d' : Addr) (m' : List (Str × Int)) (H' : Hp), Same H H' → H' d' = some (.dK (iRows m')) → m'.map (·.1) = ls → Q (.ref d') H'
def spCL (C : Addr) : Sp := fun vs H Q _ => ∃ (x : Addr) (p : Str) (g : Str) (ws ss ls : List Str), vs = [.ref x, .str p] ∧ BandAt C H x g ws ss ls ∧ p ∈ ls ∧ Q .non H
def spLonger (C : Addr) : Sp := fun vs H Q _ => ∃ (x l : Addr) (rs : List Addr) (qs : List (Str × Str)) (g : Str) (ws ss ls : List Str), vs = [.ref x, .ref l] ∧ BandAt C H x g ws ss ls ∧ RowsAt H l rs qs ∧ (∀ q ∈ qs, q.2 ∈ ss ∧ q.1.length ≤ 100) ∧ qs.length ≤ 100 ∧ g.length ≤ 10 ∧
  ∀ (l' : Addr) (rs' : List Addr) (H' : Hp), Same H H' → H l' = none → RowsAt H' l' rs' (blkStep g ws ss qs) → Q (.ref l') H'
def spBlocks (C : Addr) : Sp := fun vs H Q _ => ∃ (x : Addr) (p : Str) (n : Nat) (g : Str) (ws ss ls : List Str), vs = [.ref x, .str p, .int (n : Int)] ∧ BandAt C H x g ws ss ls ∧ p ∈ ls ∧ g.length ^ n ≤ 100 ∧ n ≤ 10 ∧ 2 ≤ g.length ∧ g.length ≤ 10 ∧
  ∀ (l' : Addr) (rs' : List Addr) (H' : Hp), Same H H' → H l' = none → RowsAt H' l' rs' (blocksOf g ws ss ls n p) → Q (.ref l') H'
def spBlockEnds (C : Addr) : Sp := fun vs H Q _ => ∃ (x : Addr) (n : Nat) (g : Str) (ws ss ls : List Str), vs = [.ref x, .int (n : Int)] ∧ BandAt C H x g ws ss ls ∧ g.length ^ n ≤ 100 ∧ n ≤ 10 ∧ 2 ≤ g.length ∧ g.length ≤ 10 ∧ ss.length ≤ 900 ∧
  ∀ (d : Addr) (ev : List (Str × Addr)) (H' : Hp), Same H H' → H d = none → H' d = some (.dK (dRows ev)) → ev.map (·.1) = ls → (∀ m ∈ ev, H' m.2 = some (.lst (((blocksOf g ws ss ls n m.1).map (·.2)).map V.str))) → (∀ m ∈ ev, H m.2 = none) → Q (.ref d) H'
def spWeight (K : PySem.W.Frag) : Sp := fun vs H Q _ => ∃ (l d : Addr) (es : List Str) (m : List (Str × Int)) (f : Str → Int), vs = [.ref l, .ref d] ∧ SqL K H l (es.map V.str) ∧ es.length ≤ 1000 ∧ Rd H d (.dK (iRows m)) ∧ WtOk m es f ∧ ∀ H', Same H H' → Q (.int ((es.map f).sum)) H'
def spFits (C : Addr) : Sp := fun vs H Q _ => ∃ (x d : Addr) (many : Int) (n : Nat) (m : List (Str × Int)) (f : Str → Int) (g : Str) (ws ss ls : List Str), vs = [.ref x, .int many, .int (n : Int), .ref d] ∧ BandAt C H x g ws ss ls ∧ 2 ≤ g.length ∧ g.length ≤ 10 ∧ ss.length ≤ 900 ∧ IsRate g.length many n ∧ Rd H d (.dK (iRows m)) ∧ WtOk m ls f ∧
  ∀ H', Same H H' → Q (.bl (fitsB g ws ss ls many n f)) H'
end Sx

set_option Elab.async false
set_option linter.all false
set_option maxRecDepth 100000
set_option maxHeartbeats 4000000
namespace Bs
open PySem L2 AC
section
variable {g : Str} {ws ss ls : List Str}
/-- weights fit -/
def Fit (g : Str) (ws ss ls : List Str) (many : Int) (n : Nat) (f : Str → Int) : Prop := ∀ p ∈ ls, many * f p ≤ borne g ws ss ls n f p
/-! weights, one for each live place -/
def wRow (f : Str → Int) (ls : List Str) : List (Str × Int) := ls.map fun p => (p, f p)
/-- brought down once -/
def lowF (g : Str) (ws ss ls : List Str) (many : Int) (n : Nat) (f : Str → Int) (p : Str) : Int := if borne g ws ss ls n f p / many < f p then borne g ws ss ls n f p / many else f p
end
end Bs
namespace Sx
open PySem L2 Bs
def spCount0 (C : Addr) : Sp := fun vs H Q _ => ∃ (x : Addr) (p : Str) (n : Int) (g : Str) (ws ss ls : List Str), vs = [.ref x, .str p, .int n] ∧ BandAt C H x g ws ss ls ∧ p ∈ ss ∧ g.length ≤ 10 ∧ ss.length ≤ 900 ∧ 0 ≤ n ∧ n ≤ 100000 ∧ ∀ H', Same H H' → Q (.int (cntF g ws ss n.toNat p)) H'
def spLowered : Sp := fun vs H Q _ => ∃ (de dw : Addr) (many : Int) (n : Nat) (o : Obj) (ev : List (Str × Addr)) (f : Str → Int) (g : Str) (ws ss ls : List Str), vs = [.ref de, .int many, .ref dw] ∧ H de = some (.frz o (.dK (dRows ev))) ∧ ev.map (·.1) = ls ∧ (∀ m ∈ ev, H m.2 = some (.lst (((blocksOf g ws ss ls n m.1).map (·.2)).map V.str))) ∧ g.length ^ n ≤ 100 ∧ ls.Nodup ∧ ls.length ≤ 900 ∧ 2 ≤ many ∧ many ≤ 8 ∧ Rd H dw (.dK (iRows (wRow f ls))) ∧
  ∀ (d : Addr) (H' : Hp), Same H H' → H d = none → H' d = some (.dK (iRows (wRow (lowF g ws ss ls many n f) ls))) → Q (.ref d) H'
/-- the greatest weights up to a most -/
structure Great (g : Str) (ws ss ls : List Str) (many : Int) (n : Nat) (most : Int) (f : Str → Int) : Prop where
  nn : ∀ p ∈ ls, 0 ≤ f p
  le : ∀ p ∈ ls, f p ≤ most
  fit : Fit g ws ss ls many n f
  top : ∀ h : Str → Int, (∀ p ∈ ls, h p ≤ most) → Fit g ws ss ls many n h → ∀ p ∈ ls, h p ≤ f p
def spGreat (C : Addr) : Sp := fun vs H Q _ => ∃ (x : Addr) (many : Int) (n : Nat) (most : Int) (g : Str) (ws ss ls : List Str), vs = [.ref x, .int many, .int (n : Int), .int most] ∧ BandAt C H x g ws ss ls ∧ 2 ≤ g.length ∧ g.length ≤ 10 ∧ ss.length ≤ 900 ∧ IsRate g.length many n ∧ 0 ≤ most ∧
  ∀ (d : Addr) (f : Str → Int) (H' : Hp), Same H H' → H d = none → H' d = some (.dK (iRows (wRow f ls))) → Great g ws ss ls many n most f → Q (.ref d) H'
/-- what scarce tells -/
inductive ScV (g : Str) (ws ss : List Str) (many : Int) (n : Nat) (most : Int) : V → Prop where
  | some (k : Nat) (a : 1 ≤ k) (b : (k : Int) ≤ most) (c : cntF g ws ss (k * n) "" < many ^ k) (d : ∀ j : Nat, 1 ≤ j → j < k → ¬ cntF g ws ss (j * n) "" < many ^ j) : ScV g ws ss many n most (.int (k : Nat))
  | none (a : ∀ j : Nat, 1 ≤ j → (j : Int) ≤ most → ¬ cntF g ws ss (j * n) "" < many ^ j) : ScV g ws ss many n most .non
def spScarceV (C : Addr) : Sp := fun vs H Q _ => ∃ (x : Addr) (many wide most : Int) (g : Str) (ws ss ls : List Str), vs = [.ref x, .int many, .int wide, .int most] ∧ BandAt C H x g ws ss ls ∧ g.length ≤ 10 ∧ ss.length ≤ 900 ∧ IsRate g.length many wide ∧ 0 ≤ most ∧ most ≤ 100 ∧
  ∀ v H', Same H H' → ScV g ws ss many wide.toNat most v → Q v H'
def spPower : Sp := fun vs H Q _ => ∃ (a t : Int), vs = [.int a, .int t] ∧ 0 ≤ a ∧ a ≤ 1000 ∧ 0 ≤ t ∧ t ≤ 100000 ∧ Q (.int (a ^ t.toNat)) H
def spBearsW (C : Addr) : Sp := fun vs H Q _ => ∃ (x dw : Addr) (many : Int) (n k : Nat) (o : Obj) (f : Str → Int) (g : Str) (ws ss ls : List Str), vs = [.ref x, .int many, .int (n : Int), .ref dw, .int (k : Int)] ∧ BandAt C H x g ws ss ls ∧ g.length ≤ 10 ∧ ss.length ≤ 900 ∧ 2 ≤ many ∧ many ≤ 8 ∧ n ≤ 10 ∧ k ≤ 100 ∧ H dw = some (.frz o (.dK (iRows (wRow f ls)))) ∧ (∀ p ∈ ls, 0 ≤ f p) ∧ (∀ p ∈ ls, f p ≤ 1000) ∧ Fit g ws ss ls many n f ∧ ∀ H', Same H H' → Q (.bl true) H'
def spDrawn : Sp := fun vs H Q _ => ∃ (c : Int) (la : Addr) (ls : List Str), vs = [.int c, .ref la] ∧ H la = some (.lst (ls.map V.str)) ∧ ls ≠ [] ∧ ls.Nodup ∧ ls.length ≤ 60 ∧
  ∀ (d : Addr) (f : Str → Int) (H' : Hp), Same H H' → H d = none → H' d = some (.dK (iRows (wRow f ls))) → (∀ p ∈ ls, 0 ≤ f p) → (∀ p ∈ ls, f p ≤ 1000) → (∃ p ∈ ls, 0 < f p) → Q (.ref d) H'
def spLScarce (C : Addr) : Sp := fun vs H Q _ => ∃ (x : Addr) (many : Int) (n k : Nat) (g : Str) (ws ss ls : List Str), vs = [.ref x, .int many, .int (n : Int), .int (k : Int)] ∧ BandAt C H x g ws ss ls ∧ (∀ w ∈ ws, 1 ≤ w.length) ∧ g.length ≤ 10 ∧ ss.length ≤ 900 ∧ 2 ≤ many ∧ many ≤ 8 ∧ n ≤ 10 ∧ k ≤ 100 ∧ cntF g ws ss (k * n) "" < many ^ k ∧ ∀ H', Same H H' → Q (.bl true) H'
def spNeverBoth (K : PySem.W.Frag) (C : Addr) : Sp := fun vs H Q _ => ∃ (x lc : Addr) (many cell : Int) (n : Nat) (cs : List Int) (g : Str) (ws ss ls : List Str), vs = [.ref x, .int many, .int (n : Int), .int cell, .ref lc] ∧ BandAt C H x g ws ss ls ∧ (∀ w ∈ ws, 1 ≤ w.length) ∧ 2 ≤ g.length ∧ g.length ≤ 10 ∧ ss.length ≤ 60 ∧ IsRate g.length many n ∧ SqL K H lc (cs.map V.int) ∧ ∀ H', Same H H' → Q (.bl true) H'
end Sx
namespace Bs
open PySem L2
end Bs

set_option Elab.async false
set_option linter.all false
set_option maxRecDepth 100000
set_option maxHeartbeats 4000000
namespace L2
open PySem PySem.Spec PyProof.Rows
section
variable {X : Cx}
end
end L2
namespace Bs
open PySem L2
end Bs
namespace Sx
open PySem L2 Bs
def spDictQ : Sp := fun vs H Q _ => ∃ (df db : Addr) (most : Int) (o : Obj) (ev : List (Str × Addr)) (Bf : Str → List (Str × Str)) (f : Str → Int) (ls : List Str), vs = [.ref df, .ref db, .int most] ∧ H df = some (.dK (iRows (wRow f ls))) ∧ BlksAt H db o ev Bf ls ∧ (∀ p ∈ ls, 0 ≤ f p) ∧ (∀ p ∈ ls, f p ≤ most) ∧ ∀ H', Same H H' → Q (.bl true) H'
def spStart : Sp := fun vs H Q _ => ∃ (c : Int) (db : Addr) (most : Int) (o : Obj) (ev : List (Str × Addr)) (Bf : Str → List (Str × Str)) (ls : List Str), vs = [.int c, .ref db, .int most] ∧ BlksAt H db o ev Bf ls ∧ 0 ≤ most ∧
  ∀ (d : Addr) (f : Str → Int) (H' : Hp), Same H H' → H d = none → H' d = some (.dK (iRows (wRow f ls))) → (∀ p ∈ ls, 0 ≤ f p) → (∀ p ∈ ls, f p ≤ most) → Q (.ref d) H'
def spSettledF : Sp := fun vs H Q _ => ∃ (db dw : Addr) (many t : Int) (n : Nat) (o : Obj) (ev : List (Str × Addr)) (f0 : Str → Int) (g : Str) (ws ss ls : List Str), vs = [.ref db, .int many, .ref dw, .int t] ∧ BlksAt H db o ev (blocksOf g ws ss ls n) ls ∧ 2 ≤ many ∧ many ≤ 8 ∧ t ≤ 100000 ∧ H dw = some (.dK (iRows (wRow f0 ls))) ∧ (∀ p ∈ ls, 0 ≤ f0 p) ∧ ((((ls.map fun p => (f0 p).toNat).sum : Nat)) : Int) < t ∧
  ∀ (d' : Addr) (f : Str → Int) (H' : Hp), Same H H' → H' d' = some (.dK (iRows (wRow f ls))) → (∀ p ∈ ls, 0 ≤ f p) → (∀ p ∈ ls, f p ≤ f0 p) → Fit g ws ss ls many n f → (∀ h : Str → Int, Fit g ws ss ls many n h → (∀ p ∈ ls, h p ≤ f0 p) → ∀ p ∈ ls, h p ≤ f p) → Q (.ref d') H'
def spRightG (K : PySem.W.Frag) (C : Addr) : Sp := fun vs H Q _ => ∃ (x db lc : Addr) (many most : Int) (n : Nat) (o : Obj) (ev : List (Str × Addr)) (cs : List Int) (g : Str) (ws ss ls : List Str), vs = [.ref x, .int many, .int (n : Int), .ref db, .int most, .ref lc] ∧ BandAt C H x g ws ss ls ∧ 2 ≤ g.length ∧ g.length ≤ 10 ∧ ss.length ≤ 60 ∧ IsRate g.length many n ∧ BlksAt H db o ev (blocksOf g ws ss ls n) ls ∧ 1 ≤ most ∧ most ≤ 8 ∧ SqL K H lc (cs.map V.int) ∧ ∀ H', Same H H' → Q (.bl true) H'
end Sx

set_option Elab.async false
set_option linter.all false
set_option maxRecDepth 100000
set_option maxHeartbeats 4000000
namespace Bs
open PySem L2
section
variable {g : Str} {ws ss ls : List Str}
/-- weights, nought where no place is live -/
def onL (ls : List Str) (f : Str → Int) (e : Str) : Int := if decide (e ∈ ls) = true then f e else 0
end
end Bs
namespace Sx
open PySem L2 Bs
section
variable {g : Str} {ws ss ls : List Str} {many many' most most' : Int} {n : Nat} {f f' : Str → Int}
theorem Great.most_le (G : Great g ws ss ls many n most f) (G' : Great g ws ss ls many n most' f') (h : most ≤ most') : ∀ p ∈ ls, f p ≤ f' p := G'.top f (fun p hp => Int.le_trans (G.le p hp) h) G.fit
theorem Great.one (G : Great g ws ss ls many n most f) (G' : Great g ws ss ls many n most f') : ∀ p ∈ ls, f p = f' p := fun p hp => Int.le_antisymm (G.most_le G' (Int.le_refl _) p hp) (G'.most_le G (Int.le_refl _) p hp)
end
def spBeneath : Sp := fun vs H Q _ => ∃ (d1 d2 : Addr) (o : Obj) (f h : Str → Int) (ls : List Str), vs = [.ref d1, .ref d2] ∧ H d1 = some (.frz o (.dK (iRows (wRow f ls)))) ∧ Rd H d2 (.dK (iRows (wRow h ls))) ∧ ls.length ≤ 60 ∧ (∀ p ∈ ls, f p ≤ h p) ∧ ∀ H', Same H H' → Q (.bl true) H'
def spMoreData (C : Addr) : Sp := fun vs H Q _ => ∃ (x y : Addr) (many most : Int) (n : Nat) (g : Str) (ws ss ls ws' ss' ls' : List Str), vs = [.ref x, .ref y, .int many, .int (n : Int), .int most] ∧ BandAt C H x g ws ss ls ∧ BandAt C H y g ws' ss' ls' ∧ 2 ≤ g.length ∧ g.length ≤ 10 ∧ ss.length ≤ 60 ∧ ss'.length ≤ 60 ∧ IsRate g.length many n ∧ 0 ≤ most ∧ ∀ H', Same H H' → Q (.bl true) H'
def spScarcer (C : Addr) : Sp := fun vs H Q _ => ∃ (x : Addr) (many most : Int) (n : Nat) (g : Str) (ws ss ls : List Str), vs = [.ref x, .int many, .int (n : Int), .int most] ∧ BandAt C H x g ws ss ls ∧ g.length ≤ 10 ∧ ss.length ≤ 60 ∧ IsRate g.length many n ∧ 0 ≤ most ∧ most ≤ 100 ∧ ∀ H', Same H H' → Q (.bl true) H'
def spWider (C : Addr) : Sp := fun vs H Q _ => ∃ (x : Addr) (most : Int) (n : Nat) (g : Str) (ws ss ls : List Str), vs = [.ref x, .int (n : Int), .str g, .int most] ∧ BandAt C H x g ws ss ls ∧ 2 ≤ g.length ∧ g.length ≤ 4 ∧ ss.length ≤ 60 ∧ 1 ≤ n ∧ n ≤ 6 ∧ (g.length : Int) ^ n ≤ 64 ∧ 0 ≤ most ∧ ∀ H', Same H H' → Q (.bl true) H'
end Sx

set_option Elab.async false
set_option linter.all false
set_option maxRecDepth 100000
set_option maxHeartbeats 4000000
namespace Bs
open PySem L2 AC
section
variable {g : Str} {ws ss : List Str}
/-- all rows of a length, in order: from the front -/
def frt (g : Str) : Nat → List Str
  | 0 => [""]
  | n + 1 => (ch g).flatMap fun c => (frt g n).map fun r => (⟨#[c]⟩ : Str) ++ r
/-- and made longer at the end -/
def bck (g : Str) : Nat → List Str
  | 0 => [""]
  | n + 1 => (bck g n).flatMap fun r => (ch g).map fun c => r ++ (⟨#[c]⟩ : Str)
/-- good rows behind a text, in order -/
def gdB (g : Str) (ws : List Str) (t : Str) (n : Nat) : List Str := (frt g n).filter fun r => !bears ws (t ++ r)
/-- the rest of the rows, from a sign on -/
def gdF (g : Str) (ws : List Str) (t : Str) (n : Nat) (cs : List Nat) : List Str := cs.flatMap fun c => (gdB g ws (t ++ ⟨#[c]⟩) n).map fun r => (⟨#[c]⟩ : Str) ++ r
end
end Bs

set_option Elab.async false
set_option linter.all false
set_option maxRecDepth 100000
set_option maxHeartbeats 4000000
namespace L2
open PySem PySem.Spec PyProof.Rows
section
variable {X : Cx}
/-- a range with a step -/
def rng3 (p : Addr) (a b c : Int) : HO := .ext fun h => ∃ t u v, IsRange h p a b c t u v
end
end L2

set_option Elab.async false
set_option linter.all false
set_option maxRecDepth 100000
set_option maxHeartbeats 4000000
namespace Bs
open PySem L2
/-- how many rows go through a sign -/
def thr (g : Str) (ws ss : List Str) (n : Nat) (p : Str) (c : Nat) : Int := if bears ws (p ++ ⟨#[c]⟩) = true then 0 else cntF g ws ss n (lend ss (p ++ ⟨#[c]⟩))
def gThr (g : Str) (ws ss : List Str) (n : Nat) (p : Str) : V → V := fun v => match v with
  | .str z => .int (thr g ws ss n p (z.cps.getD 0 0))
  | _ => .non
end Bs
namespace Sx
open PySem L2 Bs
def spThrough (C : Addr) : Sp := fun vs H Q _ => ∃ (x dc : Addr) (p : Str) (c n : Nat) (g : Str) (ws ss ls : List Str), vs = [.ref x, .str p, .str ⟨#[c]⟩, .ref dc] ∧ BandAt C H x g ws ss ls ∧ p ∈ ss ∧ c ∈ ch g ∧ H dc = some (.dK (cRow g ws ss n)) ∧ Q (.int (thr g ws ss n p c)) H
def spRowAt (C : Addr) : Sp := fun vs H Q _ => ∃ (x : Addr) (n k : Nat) (r g : Str) (ws ss ls : List Str), vs = [.ref x, .int (n : Int), .int (k : Int)] ∧ BandAt C H x g ws ss ls ∧ (∀ w ∈ ws, 1 ≤ w.length) ∧ g.length ≤ 10 ∧ ss.length ≤ 900 ∧ n ≤ 1000 ∧ (gdB g ws "" n)[k]? = some r ∧ ∀ H', Same H H' → Q (.str r) H'
def spNumberOf (C : Addr) : Sp := fun vs H Q _ => ∃ (x : Addr) (k : Nat) (r g : Str) (ws ss ls : List Str), vs = [.ref x, .str r] ∧ BandAt C H x g ws ss ls ∧ (∀ w ∈ ws, 1 ≤ w.length) ∧ (ch g).Nodup ∧ g.length ≤ 10 ∧ ss.length ≤ 900 ∧ r.length ≤ 1000 ∧ (gdB g ws "" r.length)[k]? = some r ∧ ∀ H', Same H H' → Q (.int (k : Int)) H'
def spRows10 : Sp := fun vs H Q _ => ∃ (g : Str) (n : Nat), vs = [.str g, .int (n : Int)] ∧ g.length ^ n ≤ 1000 ∧ 2 ≤ g.length ∧ g.length ≤ 10 ∧ n ≤ 10 ∧ ∀ (l : Addr) (H' : Hp), Same H H' → H l = none → H' l = some (.lst ((bck g n).map V.str)) → Q (.ref l) H'
def spGood10 (K : PySem.W.Frag) : Sp := fun vs H Q _ => ∃ (r : Str) (a : Addr) (ws : List Str), vs = [.str r, .ref a] ∧ SqL K H a (ws.map V.str) ∧ ws.length ≤ 1000 ∧ ∀ H', Same H H' → Q (.bl (!bears ws r)) H'
def spNum10 : Sp := fun vs H Q _ => ∃ i : Int, vs = [.int i, .int i] ∧ Q (.bl true) H
end Sx

set_option Elab.async false
set_option linter.all false
set_option maxRecDepth 100000
set_option maxHeartbeats 4000000
namespace L2
open PySem PySem.Spec PyProof.Rows
section
variable {X : Cx}
/-- // by a divisor of many figures -/
def CDivB (i j : Int) : Prop := 0 < j ∧ j.natAbs.log2 < 9000
end
end L2
namespace Sx
open PySem L2 Bs
def spShaken : Sp := fun vs H Q _ => ∃ (c : Int) (m : Nat), vs = [.int c, .int (m : Int)] ∧ m ≤ 1000 ∧ ∀ (l : Addr) (xs : List Int) (H' : Hp), Same H H' → H l = none → H' l = some (.lst (xs.map V.int)) → xs.length = m → Q (.ref l) H'
def spBandQ (K : PySem.W.Frag) : Sp := fun vs H Q _ => ∃ (a : Addr) (ns : List Int), vs = [.ref a] ∧ SqL K H a (ns.map V.int) ∧ ∀ (p lw : Addr) (g : Str) (ws : List Str) (H' : Hp), Same H H' → H p = none → H lw = none → H' p = some (.tup [.str g, .ref lw]) → H' lw = some (.lst (ws.map V.str)) → Signs g → ws.length ≤ 6 → (∀ w ∈ ws, Word g w) → Q (.ref p) H'
def spRateQ (K : PySem.W.Frag) : Sp := fun vs H Q _ => ∃ (a : Addr) (ns : List Int) (g : Str), vs = [.ref a, .str g] ∧ SqL K H a (ns.map V.int) ∧ 2 ≤ g.length ∧ g.length ≤ 4 ∧ ∀ (p : Addr) (many wide : Int) (H' : Hp), Same H H' → H p = none → H' p = some (.tup [.int many, .int wide]) → IsRate g.length many wide → Q (.ref p) H'
end Sx

set_option Elab.async false
set_option linter.all false
set_option maxRecDepth 100000
set_option maxHeartbeats 4000000
namespace L2
open PySem PySem.Spec PyProof.Rows
/-- lo, lo + c, .. (n of them) -/
def Itr3 (lo c : Int) (n : Nat) : It := ⟨fun i _ => i < n, fun i H x H' => H' = H ∧ x = .int (lo + (i : Nat) * c), fun i _ => n ≤ i⟩
section
variable {X : Cx} {tg : Expr}
/-- a range downwards by ones -/
def iRng3 (ta : TA) : TI := fun σ H R => ta σ H fun vs H1 => ∃ i j : Int, vs = [.int i, .int j, .int (-1)] ∧ (0 ≤ i ∧ i ≤ 1000000 ∧ 0 ≤ j ∧ j ≤ 1000000) ∧ R (Itr3 i (-1) (i - j).toNat) H1
end
end L2
namespace Bs
open PySem L2
section
variable {ws ss : List Str}
/-- rows counted by their places -/
def addQ (ws ss : List Str) (e : Str) (v : Int) (m : List (Str × Int)) (c : Nat) : List (Str × Int) := if bears ws (e ++ ⟨#[c]⟩) = true then m else bump m (lend ss (e ++ ⟨#[c]⟩)) v
def innP (g : Str) (ws ss : List Str) (m : List (Str × Int)) (p : Str × Int) : List (Str × Int) := (ch g).foldl (addQ ws ss p.1 p.2) m
def hereP (g : Str) (ws ss : List Str) : Nat → List (Str × Int)
  | 0 => [("", 1)]
  | n + 1 => (hereP g ws ss n).foldl (innP g ws ss) []
def goP (ws ss : List Str) (F : Str → Int) (e : Str) (c : Nat) : Int := if bears ws (e ++ ⟨#[c]⟩) = true then 0 else F (lend ss (e ++ ⟨#[c]⟩))
/-- keys: each once, places that no word stands in -/
structure KeysP (ss : List Str) (m : List (Str × Int)) : Prop where
  nd : (m.map (·.1)).Nodup
  sh : ∀ k ∈ m.map (·.1), k ∈ ss
theorem KeysP.nil : KeysP ss [] := ⟨List.nodup_nil, fun k h => nomatch h⟩
theorem KeysP.bump {m : List (Str × Int)} (h : KeysP ss m) {k : Str} {v : Int} (hk : k ∈ ss) : KeysP ss (bump m k v) := by
  by_cases hm : k ∈ m.map (·.1)
  · exact ⟨by rw [bump_keys, if_pos hm]; exact h.nd, by rw [bump_keys, if_pos hm]; exact h.sh⟩
  · refine ⟨?_, ?_⟩
    · rw [bump_keys, if_neg hm]
      exact List.nodup_append.mpr ⟨h.nd, List.nodup_cons.mpr ⟨fun z => (nomatch z), List.nodup_nil⟩, fun a ha b hb z => hm (by rw [← List.mem_singleton.mp hb, ← z]; exact ha)⟩
    · rw [bump_keys, if_neg hm]
      intro j hj
      rcases List.mem_append.mp hj with z | z
      · exact h.sh j z
      · rw [List.mem_singleton.mp z]
        exact hk
theorem KeysP.add (he : ("" : Str) ∈ ss) {m : List (Str × Int)} (h : KeysP ss m) {e : Str} {v : Int} {c : Nat} : KeysP ss (addQ ws ss e v m c) := by
  unfold addQ
  split
  · exact h
  · exact h.bump (lend_mem he _)
theorem KeysP.fold (he : ("" : Str) ∈ ss) {e : Str} {v : Int} : ∀ {cs : List Nat} {m : List (Str × Int)}, KeysP ss m → KeysP ss (cs.foldl (addQ ws ss e v) m)
  | [], m, h => h
  | c :: cs, m, h => KeysP.fold (cs := cs) he (h.add he)
theorem KeysP.steps (he : ("" : Str) ∈ ss) {g : Str} : ∀ {hs m : List (Str × Int)}, KeysP ss m → KeysP ss (hs.foldl (innP g ws ss) m)
  | [], m, h => h
  | p :: hs, m, h => KeysP.steps (hs := hs) he (KeysP.fold he h)
theorem KeysP.here (he : ("" : Str) ∈ ss) {g : Str} : ∀ n, KeysP ss (hereP g ws ss n)
  | 0 => ⟨List.nodup_cons.mpr ⟨fun z => (nomatch z), List.nodup_nil⟩, fun k hk => by
      rw [List.mem_singleton.mp hk]
      exact he⟩
  | n + 1 => KeysP.steps he KeysP.nil
theorem KeysP.len {m : List (Str × Int)} (h : KeysP ss m) : m.length ≤ ss.length := by
  have := nodup_le h.nd h.sh
  rw [List.length_map] at this
  exact this
end
end Bs
namespace Sx
open PySem L2 Bs
/-- the place of a good row, by the words -/
def spTail (K : PySem.W.Frag) : Sp := fun vs H Q _ => ∃ (r : Str) (a : Addr) (ws ss : List Str), vs = [.str r, .ref a] ∧ SqL K H a (ws.map V.str) ∧ ss.Perm (keysS ws "" ws) ∧ (∀ w ∈ ws, w.length ≤ 5) ∧ ws.length ≤ 100 ∧ bears ws r = false ∧ r.length ≤ 1000 ∧ ∀ H', Same H H' → Q (.str (lend ss r)) H'
def spCountP (K : PySem.W.Frag) : Sp := fun vs H Q _ => ∃ (g : Str) (lw : Addr) (ws ss : List Str) (n : Nat), vs = [.str g, .ref lw, .int (n : Int)] ∧ H lw = some (.lst (ws.map V.str)) ∧ g.length ≤ 4 ∧ n ≤ 1000 ∧ ws.length ≤ 6 ∧ (∀ w ∈ ws, 1 ≤ w.length) ∧ (∀ w ∈ ws, w.length ≤ 5) ∧ ss.Perm (keysS ws "" ws) ∧ ∀ H', Same H H' → Q (.int (cntF g ws ss n "")) H'
def spWtsQ (K : PySem.W.Frag) (C : Addr) : Sp := fun vs H Q _ => ∃ (a x : Addr) (ns : List Int) (many : Int) (n : Nat) (g : Str) (ws ss ls : List Str), vs = [.ref a, .ref x, .int many, .int (n : Int)] ∧ SqL K H a (ns.map V.int) ∧ BandAt C H x g ws ss ls ∧ 2 ≤ g.length ∧ g.length ≤ 10 ∧ ss.length ≤ 60 ∧ IsRate g.length many n ∧
  ∀ (d : Addr) (f : Str → Int) (H' : Hp), Same H H' → H d = none → H' d = some (.dK (iRows (wRow f ls))) → (∀ p ∈ ls, 0 ≤ f p) → (∀ p ∈ ls, f p ≤ 1000) → Q (.ref d) H'
end Sx

set_option Elab.async false
set_option linter.all false
set_option maxRecDepth 100000
set_option maxHeartbeats 4000000
namespace L2
open PySem PySem.Spec PyProof.Rows
section
variable {M : Model} {A : Around} {E : Value → Shared → Prop} {e C CB : Addr} {nm q : Str} {N : Addr} {bs : List Value} {hdct : Bool} {sn : List Str} {sub : List Value} {ab : Bool} {col : Option Bool} {dd : Option Addr} {k0 k1 k2 k3 k5 : Option Value}
end
/-- try: body / except C: x = True -/
def tTry0 (C : Addr) (b : Bool) (tb : TSx) (i : Nat) : TS := fun D σ H => tb (fun σ' cv od H' => cv = .ref C ∧ D.nx (σ'.set i (some (.bl b))) H') D σ H
section
variable {X : Cx} {CB C : Addr} {nmC x nm : Str} {b : Bool} {body : List Stmt} {tb : TSx} {i jj : Nat} {p1 p2 p3 p4 hpos pos : Pos}
end
end L2
namespace Bs
open PySem L2
section
variable {g : Str} {ws ss : List Str}
/-- stands ahead, by the signs' order -/
structure LtG (g r r' : Str) (k c d : Nat) : Prop where
  eq : ∀ m, m < k → (ch r)[m]? = (ch r')[m]?
  hc : (ch r)[k]? = some c
  hd : (ch r')[k]? = some d
  lt : ∃ i j : Nat, (ch g)[i]? = some c ∧ (ch g)[j]? = some d ∧ i < j
theorem LtG.cons {r r' : Str} {k c d : Nat} (h : LtG g r r' k c d) (e : Nat) : LtG g ((⟨#[e]⟩ : Str) ++ r) ((⟨#[e]⟩ : Str) ++ r') (k + 1) c d := by
  have ec : ∀ z : Str, ch ((⟨#[e]⟩ : Str) ++ z) = e :: ch z := fun z => by rw [ch_append, ch_one]; rfl
  refine ⟨fun m hm => ?_, ?_, ?_, h.lt⟩
  · rw [ec, ec]
    cases m with
    | zero => rfl
    | succ m => exact h.eq m (by omega)
  · rw [ec]; exact h.hc
  · rw [ec]; exact h.hd
def LtR (g r r' : Str) : Prop := ∃ k c d, LtG g r r' k c d
/-- a dict of the ends of places, as far as they are known -/
structure EndsAt (H : Hp) (de : Addr) (g : Str) (ws ss : List Str) (ev : List (Str × Addr)) : Prop where
  at_ : H de = some (.dK (dRows ev))
  nd : (ev.map (·.1)).Nodup
  sh : ∀ k ∈ ev.map (·.1), k ∈ ss
  row : ∀ m ∈ ev, H m.2 = some (.lst ((endsOf g ws ss m.1).map V.str))
theorem EndsAt.ne {H : Hp} {de dm : Addr} {ev : List (Str × Addr)} {rs : List (Key × V)} (h : EndsAt H de g ws ss ev) (hd : H dm = some (.dK rs)) : ∀ m ∈ ev, m.2 ≠ dm := fun m hm z => by
  have := h.row m hm
  rw [z, hd] at this
  cases this
theorem EndsAt.len {H : Hp} {de : Addr} {ev : List (Str × Addr)} (h : EndsAt H de g ws ss ev) : ev.length ≤ ss.length := by
  have := nodup_le h.nd h.sh
  rw [List.length_map] at this
  exact this
/-- what was written lies elsewhere -/
theorem EndsAt.keep {H H' : Hp} {de dm : Addr} {ev : List (Str × Addr)} {rs : List (Key × V)} (h : EndsAt H de g ws ss ev) (hd : H dm = some (.dK rs)) (hne : de ≠ dm) (k : ∀ c o, H c = some o → c ≠ dm → H' c = some o) : EndsAt H' de g ws ss ev :=
  ⟨k _ _ h.at_ hne, h.nd, h.sh, fun m hm => k _ _ (h.row m hm) (h.ne hd m hm)⟩
theorem EndsAt.same {H H' : Hp} {de : Addr} {ev : List (Str × Addr)} (h : EndsAt H de g ws ss ev) (s : Same H H') : EndsAt H' de g ws ss ev := ⟨s _ _ h.at_, h.nd, h.sh, fun m hm => s _ _ (h.row m hm)⟩
theorem EndsAt.put {H : Hp} {de a : Addr} {p : Str} {ev : List (Str × Addr)} (h : EndsAt H de g ws ss ev) (hp : p ∈ ss) (hn : p ∉ ev.map (·.1)) (ha : H a = some (.lst ((endsOf g ws ss p).map V.str))) : EndsAt (upd H de (.dK (putK (dRows ev) (Sum.inr p : Key) (.ref a)))) de g ws ss (ev ++ [(p, a)]) := by
  refine ⟨?_, ?_, ?_, ?_⟩
  · rw [upd_same, putK_new _ (dRows_none hn)]
    unfold dRows
    rw [List.map_append]
    rfl
  · rw [List.map_append]
    exact List.nodup_append.mpr ⟨h.nd, List.nodup_cons.mpr ⟨fun z => (nomatch z), List.nodup_nil⟩, fun y hy b hb z => hn (by have e : b = p := List.mem_singleton.mp hb; rw [← e, ← z]; exact hy)⟩
  · intro k hk
    rw [List.map_append] at hk
    rcases List.mem_append.mp hk with z | z
    · exact h.sh k z
    · rw [List.mem_singleton.mp z]
      exact hp
  · intro m hm
    rcases List.mem_append.mp hm with z | z
    · rw [upd_ne (h.ne h.at_ m z)]
      exact h.row m z
    · have : m = (p, a) := by simpa using z
      subst this
      have : a ≠ de := fun z => by rw [z, h.at_] at ha; cases ha
      rw [upd_ne this]
      exact ha
end
end Bs
namespace Sx
open PySem L2 Bs
/-- the row of a number, or NoNumber -/
def spRowAtE (C CN : Addr) : Sp := fun vs H Q E => ∃ (x : Addr) (n : Nat) (k : Int) (g : Str) (ws ss ls : List Str), vs = [.ref x, .int (n : Int), .int k] ∧ BandAt C H x g ws ss ls ∧ (∀ w ∈ ws, 1 ≤ w.length) ∧ g.length ≤ 10 ∧ ss.length ≤ 900 ∧ n ≤ 1000 ∧
  ((∃ (q : Nat) (r : Str), k = q ∧ (gdB g ws "" n)[q]? = some r ∧ ∀ H', Same H H' → Q (.str r) H') ∨ ((k < 0 ∨ cntF g ws ss n "" ≤ k) ∧ ∀ H', Same H H' → E (.ref CN) none H'))
def spRefused12 (C : Addr) : Sp := fun vs H Q _ => ∃ (x : Addr) (n : Nat) (k : Int) (g : Str) (ws ss ls : List Str), vs = [.ref x, .int (n : Int), .int k] ∧ BandAt C H x g ws ss ls ∧ (∀ w ∈ ws, 1 ≤ w.length) ∧ g.length ≤ 10 ∧ ss.length ≤ 900 ∧ n ≤ 1000 ∧ (k < 0 ∨ cntF g ws ss n "" ≤ k) ∧ ∀ H', Same H H' → Q (.bl true) H'
def spAhead12 : Sp := fun vs H Q _ => ∃ (r r' g : Str), vs = [.str r, .str r', .str g] ∧ LtR g r r' ∧ (ch g).Nodup ∧ r.length = r'.length ∧ r.length ≤ 1000 ∧ g.length ≤ 10 ∧ Q (.bl true) H
def spRight12 (K : PySem.W.Frag) (C : Addr) : Sp := fun vs H Q _ => ∃ (x lw : Addr) (n q : Nat) (r g : Str) (ws ss ls : List Str), vs = [.ref x, .ref lw, .int (n : Int), .int (q : Int)] ∧ BandAt C H x g ws ss ls ∧ SqL K H lw (ws.map V.str) ∧ (∀ w ∈ ws, 1 ≤ w.length) ∧ (ch g).Nodup ∧ g.length ≤ 10 ∧ ss.length ≤ 900 ∧ n ≤ 1000 ∧ ws.length ≤ 1000 ∧ (gdB g ws "" n)[q]? = some r ∧ ∀ H', Same H H' → Q (.str r) H'
end Sx

set_option Elab.async false
set_option linter.all false
set_option maxRecDepth 100000
set_option maxHeartbeats 4000000
namespace L2
open PySem PySem.Spec PyProof.Rows
section
variable {prog : Program} {w : World} {A : Around} {R : Result → Shared → Prop} {s : Shared} {d it l t : Addr} {i : Nat} {items : Array Value}
end
section
variable {prog : Program} {w : World} {K : Type} [DecidableEq K] {knd : KeyKind prog w K} {A : Around} {E : Value → Shared → Prop} {s : Shared} {l : Addr} {o : Obj} {items : Array Value} {n : Nat}
end
section
variable {X : Cx} {A : Around} {pins : List (Addr × Obj)} {σ : St} {H : Hp} {d it l : Addr} {ts : List Addr} {ps : List (Key × V)} {R : Result → Shared → Prop}
end
end L2
namespace Bs
open PySem L2
end Bs
namespace Sx
open PySem L2 Bs
def spTables (K : PySem.W.Frag) : Sp := fun vs H Q _ => ∃ (g : Str) (lw lp : Addr) (n : Nat) (ws ss : List Str), vs = [.str g, .ref lw, .ref lp, .int (n : Int)] ∧ H lw = some (.lst (ws.map V.str)) ∧ H lp = some (.lst (ss.map V.str)) ∧ ("" : Str) ∈ ss ∧ ss.Nodup ∧ (∀ p ∈ ss, p.length ≤ 5) ∧ ss.length ≤ 900 ∧ g.length ≤ 10 ∧ ws.length ≤ 1000 ∧ n ≤ 1000 ∧
  ∀ (l : Addr) (ts : List Addr) (H' : Hp), Same H H' → H l = none → H' l = some (.lst (ts.map V.ref)) → ts.length = n + 1 → (∀ i t, ts[i]? = some t → H' t = some (.dK (cRow g ws ss i))) → Q (.ref l) H'
end Sx

set_option Elab.async false
set_option linter.all false
set_option maxRecDepth 100000
set_option maxHeartbeats 4000000
namespace L2
open PySem PySem.Spec PyProof.Rows
section
variable {X : Cx}
/-- two tuples of flat things are unlike -/
def rNeTup (K : PySem.W.Frag) : R2 := fun x y H Q => ∃ a b xs ys, x = .ref a ∧ y = .ref b ∧ SqT K H a xs ∧ SqT K H b ys ∧ xs.length = ys.length ∧ xs.all flatV = true ∧ ys.all flatV = true ∧ Q (.bl (!eqVs xs ys)) H
theorem call_min1 (hc : X.calm = true) : CallR X (.builtin "min") (fun xs H Q => ∃ p ns, xs = [.ref p] ∧ SqL X.K H p (List.map V.int ns) ∧ ns ≠ [] ∧ ∀ M, M ∈ ns → (∀ a ∈ ns, M ≤ a) → Q (.int M) H) := by
  intro pins s σ H xs us Q I r h
  obtain ⟨p, ns, rfl, hq, hne, q⟩ := h
  obtain ⟨u, rfl, rx⟩ := vals1 r
  cases rx
  obtain ⟨its, rv, pl, hz⟩ := I.list hq
  obtain ⟨ys, e, rfl⟩ := ints_items rv
  have hl : s.heap.IsList p (intItems ys.toArray) := by
    have : intItems ys.toArray = its.toArray := by rw [e]; unfold intItems; simp
    rw [this]
    exact pl.isList
  have hsz : 0 < ys.toArray.size := by
    rw [List.size_toArray]
    exact Nat.pos_of_ne_zero fun z => hne (by rw [List.eq_nil_of_length_eq_zero z]; rfl)
  refine min_intList (I.ok.hd hc) hl hsz fun v h' tk hv hk => ?_
  obtain ⟨t, rfl⟩ := intItems_at hv
  obtain ⟨h1, h2⟩ := argBest_lt (numAt ys.toArray) (ys.toArray.size - 1)
  refine ⟨.int _, H, I.kept hk, ⟨t, rfl⟩, q _ ?_ fun a ha => ?_⟩
  · rw [numAt_eq]
    exact getD_mem (by rw [List.length_map]; simp only [List.size_toArray] at *; omega)
  · obtain ⟨j, hj, rfl⟩ := mem_getD ha
    rw [List.length_map] at hj
    have := h2 j (by simp only [List.size_toArray] at *; omega)
    rw [show numAt ys.toArray j = (ys.map (·.1)).getD j 0 from numAt_eq ..] at this
    exact this
end
end L2
namespace Bs
open PySem L2
section
variable {g : Str} {ws ss ss' : List Str}
end
/-- what a number is -/
def isInt : V → Bool
  | .int _ => true
  | _ => false
/-- what is asked of a row's number, and answered -/
inductive AskN (g : Str) (ws : List Str) (r : Str) : Int → L2.V → Prop where
  | out {i : Nat} (h : Out g r i) : AskN g ws r 1 (.int (i : Nat))
  | good {k : Nat} (h : (gdB g ws "" r.length)[k]? = some r) : AskN g ws r 0 (.int (k : Nat))
  | bad {n : Nat} (h : Ins g r) (hb : Bad ws r n) : AskN g ws r 2 (.int ((n : Nat) + 1))
end Bs
namespace Sx
open PySem L2 Bs
def spWholeT : Sp := fun vs H Q _ => ∃ v : V, vs = [v] ∧ Thing H v ∧ Q (.bl (isInt v)) H
/-- what is no row's number is refused -/
def spRowAtX (C CN : Addr) : Sp := fun vs H Q E => ∃ (x : Addr) (n : Nat) (v : V) (g : Str) (ws ss ls : List Str), vs = [.ref x, .int (n : Int), v] ∧ BandAt C H x g ws ss ls ∧ g.length ≤ 10 ∧ ss.length ≤ 900 ∧ n ≤ 1000 ∧ Thing H v ∧ (∀ k : Int, v = .int k → k < 0 ∨ cntF g ws ss n "" ≤ k) ∧ ∀ H', Same H H' → E (.ref CN) none H'
def spNumberE (C CR CB : Addr) : Sp := fun vs H Q E => ∃ (x : Addr) (r g : Str) (ws ss ls : List Str), vs = [.ref x, .str r] ∧ BandAt C H x g ws ss ls ∧ (∀ w ∈ ws, 1 ≤ w.length) ∧ (ch g).Nodup ∧ g.length ≤ 10 ∧ ss.length ≤ 900 ∧ r.length ≤ 1000 ∧
  ((∃ k : Nat, (gdB g ws "" r.length)[k]? = some r ∧ ∀ H', Same H H' → Q (.int (k : Int)) H') ∨ (∃ n, Ins g r ∧ Bad ws r n ∧ NoX CB "length" (.int ((n : Nat) + 1)) H E) ∨ (∃ i, Out g r i ∧ NoX CR "number" (.int (i : Nat)) H E))
def spTold (CR CB CN : Addr) : Sp := fun vs H Q _ => ∃ (c f : V) (a : Int) (b : V), vs = [c, f] ∧
  ((c = .non ∧ a = 0 ∧ b = f) ∨ (∃ e dd, c = .ref e ∧ H e = some (XC e CR (some dd)) ∧ H dd = some (.xd [("number", b)]) ∧ a = 1) ∨ (∃ e dd, c = .ref e ∧ H e = some (XC e CB (some dd)) ∧ H dd = some (.xd [("length", b)]) ∧ a = 2) ∨ (∃ e, c = .ref e ∧ H e = some (XC e CN none) ∧ a = 3 ∧ b = .bl true)) ∧
  ∀ p H', Same H H' → H' p = some (.tup [.int a, b]) → Q (.ref p) H'
def spNof (C : Addr) : Sp := fun vs H Q _ => ∃ (x : Addr) (r g : Str) (ws ss ls : List Str) (a : Int) (b : V), vs = [.ref x, .str r] ∧ BandAt C H x g ws ss ls ∧ (∀ w ∈ ws, 1 ≤ w.length) ∧ (ch g).Nodup ∧ g.length ≤ 10 ∧ ss.length ≤ 900 ∧ r.length ≤ 1000 ∧ AskN g ws r a b ∧ ∀ p H', Same H H' → H' p = some (.tup [.int a, b]) → Q (.ref p) H'
def spRat (C : Addr) : Sp := fun vs H Q _ => ∃ (x : Addr) (n : Nat) (v : V) (g : Str) (ws ss ls : List Str), vs = [.ref x, .int (n : Int), v] ∧ BandAt C H x g ws ss ls ∧ g.length ≤ 10 ∧ ss.length ≤ 900 ∧ n ≤ 1000 ∧ Thing H v ∧ (∀ k : Int, v = .int k → k < 0 ∨ cntF g ws ss n "" ≤ k) ∧ ∀ p H', Same H H' → H' p = some (.tup [.int 3, .bl true]) → Q (.ref p) H'
def spRow13 (K : PySem.W.Frag) : Sp := fun vs H Q _ => ∃ (a b : Addr) (ns : List Int) (g : Str) (ws : List Str), vs = [.ref a, .str g, .ref b] ∧ SqL K H a (ns.map V.int) ∧ SqL K H b (ws.map V.str) ∧ Signs g ∧ ws.length ≤ 6 ∧ (∀ w ∈ ws, Word g w) ∧
  ∀ (r : Str) (H' : Hp), Same H H' → bears ws r = false → (∀ c ∈ ch r, c ∈ ch g) → r.length ≤ 153 → Q (.str r) H'
def spCounts13 (K : PySem.W.Frag) : Sp := fun vs H Q _ => ∃ (g : Str) (lw : Addr) (n : Nat) (ws : List Str), vs = [.str g, .ref lw, .int (n : Int)] ∧ H lw = some (.lst (ws.map V.str)) ∧ ws.length ≤ 6 ∧ (∀ w ∈ ws, 1 ≤ w.length) ∧ (∀ w ∈ ws, w.length ≤ 5) ∧ g.length ≤ 10 ∧ n ≤ 1000 ∧
  ∀ (l : Addr) (ts : List Addr) (H' : Hp), Same H H' → H l = none → H' l = some (.lst (ts.map V.ref)) → ts.length = n + 1 → (∀ i t, ts[i]? = some t → H' t = some (.dK (cRow g ws (keysS ws "" ws) i))) → Q (.ref l) H'
def spDue13 (K : PySem.W.Frag) : Sp := fun vs H Q _ => ∃ (r g : Str) (lw : Addr) (ws : List Str) (k : Nat), vs = [.str r, .str g, .ref lw] ∧ H lw = some (.lst (ws.map V.str)) ∧ ws.length ≤ 6 ∧ (∀ w ∈ ws, 1 ≤ w.length) ∧ (∀ w ∈ ws, w.length ≤ 5) ∧ (ch g).Nodup ∧ g.length ≤ 10 ∧ r.length ≤ 1000 ∧ (gdB g ws "" r.length)[k]? = some r ∧ ∀ H', Same H H' → Q (.int (k : Int)) H'
end Sx
namespace L2
open PySem PySem.Spec PyProof.Rows
/-- whole numbers, written out -/
def litInts : List Expr → Option (List Int)
  | [] => some []
  | .Constant (.int i) _ _ :: es => (litInts es).map (i :: ·)
  | _ :: _ => none
def tInts : List Int → TA
  | [] => tNil
  | i :: is => tCons (tC (.int i)) (tInts is)
/-- pairs of them -/
def litLitP : List Expr → Option (List (Int × Int))
  | [] => some []
  | .Tuple [.Constant (.int i) _ _, .Constant (.int j) _ _] _ _ :: es => (litLitP es).map ((i, j) :: ·)
  | _ :: _ => none
def tLitP : List (Int × Int) → TA
  | [] => tNil
  | p :: ps => tCons (tTup (tCons (tC (.int p.1)) (tCons (tC (.int p.2)) tNil))) (tLitP ps)
end L2

set_option Elab.async false
set_option linter.all false
set_option maxRecDepth 100000
set_option maxHeartbeats 4000000
namespace L2
open PySem PySem.Spec PyProof.Rows
/-! ### things alike by depth -/
/-- what a thing is, down to its flat parts -/
inductive Dat where
  | at (v : V)
  | tup (ds : List Dat)
  | lst (ds : List Dat)
def okLeaf : V → Bool
  | .non => true
  | .bl _ => true
  | .int _ => true
  | .str _ => true
  | _ => false
mutual
def Rds (K : PySem.W.Frag) (H : Hp) : Dat → V → Prop
  | .at x, v => v = x ∧ okLeaf x = true
  | .tup ds, v => ∃ a xs, v = .ref a ∧ H a = some (.tup xs) ∧ RdsL K H ds xs
  | .lst ds, v => ∃ a xs, v = .ref a ∧ Rd H a (.lst xs) ∧ RdsL K H ds xs
def RdsL (K : PySem.W.Frag) (H : Hp) : List Dat → List V → Prop
  | [], xs => xs = []
  | d :: ds, xs => ∃ v vs, xs = v :: vs ∧ Rds K H d v ∧ RdsL K H ds vs
end
mutual
def dep : Dat → Nat
  | .at _ => 0
  | .tup ds => depL ds + 1
  | .lst ds => depL ds + 1
def depL : List Dat → Nat
  | [] => 0
  | d :: ds => max (dep d) (depL ds)
end
section
variable {K : PySem.W.Frag} {H : Hp}
theorem RdsL.both : ∀ (ds : List Dat) (xs ys : List V), RdsL K H ds xs → RdsL K H ds ys → xs.length = ys.length ∧ ∀ (j : Nat) (x y : V), xs[j]? = some x → ys[j]? = some y → ∃ d, dep d ≤ depL ds ∧ Rds K H d x ∧ Rds K H d y
  | [], xs, ys, h1, h2 => by
    have e1 : xs = [] := h1
    have e2 : ys = [] := h2
    subst e1 e2
    exact ⟨rfl, fun j x y h => by simp at h⟩
  | d :: ds, xs, ys, h1, h2 => by
    obtain ⟨v, vs, rfl, hv, hvs⟩ := (show ∃ v vs, xs = v :: vs ∧ Rds K H d v ∧ RdsL K H ds vs from h1)
    obtain ⟨w, ws, rfl, hw, hws⟩ := (show ∃ v vs, ys = v :: vs ∧ Rds K H d v ∧ RdsL K H ds vs from h2)
    obtain ⟨hl, hg⟩ := RdsL.both ds vs ws hvs hws
    refine ⟨by rw [List.length_cons, List.length_cons, hl], fun j x y hx hy => ?_⟩
    cases j with
    | zero =>
      cases hx
      cases hy
      exact ⟨d, Nat.le_max_left _ _, hv, hw⟩
    | succ j =>
      obtain ⟨e, h1, h2, h3⟩ := hg j x y hx hy
      exact ⟨e, Nat.le_trans h1 (Nat.le_max_right _ _), h2, h3⟩
theorem leaf_same {v : V} (h : okLeaf v = true) : eqV v v = true := by
  cases v with
  | non => rfl
  | bl b => cases b <;> rfl
  | int i => show (i == i) = true; simp
  | str z => show (z == z) = true; simp
  | _ => cases h
end
section
variable {X : Cx} {pins : List (Addr × Obj)} {σ : St} {H : Hp} {s : Shared}
theorem all_yes' (n : Nat) : (List.range n).all (fun _ => true) = true := by simp
/-- == and != of two lists, or two tuples, that are alike by depth -/
def rDp (K : PySem.W.Frag) (b : Bool) : R2 := fun x y H Q => ∃ ds, depL ds ≤ 50 ∧ ((Rds K H (.lst ds) x ∧ Rds K H (.lst ds) y) ∨ (Rds K H (.tup ds) x ∧ Rds K H (.tup ds) y)) ∧ Q (.bl b) H
end
end L2

set_option Elab.async false
set_option linter.all false
set_option maxRecDepth 100000
set_option maxHeartbeats 4000000
namespace L2
open PySem PySem.Spec PyProof.Rows Sx
section
variable {X : Cx}
/-- a thing is not unlike itself -/
theorem op_neT (hu : X.A.units < cLine) : OpR X (compareOp .NotEq) (fun x y H Q => x = y ∧ Thing H x ∧ (∀ a, x = .ref a → H a ≠ some (.dK [])) ∧ Q (.bl false) H) := by
  intro pins s σ H x y v u Q I rx ry h
  obtain ⟨rfl, th, nd, q⟩ := h
  have fin : EP X pins σ Q (.bool false) s := ⟨.bl false, H, I, rfl, q⟩
  cases th with
  | flat f =>
    cases x with
    | non => cases rx; cases ry; exact SeqAt.RcNeAt.none_none _ _ _ _ fin
    | bl b => cases rx; cases ry; exact SeqAt.RcNeAt.bool_bool b b _ _ _ _ (by simpa using fin)
    | int b => obtain ⟨t, rfl⟩ := rx; obtain ⟨t', rfl⟩ := ry; exact SeqAt.RcNeAt.int_int b t b t' _ _ _ _ (by simpa using fin)
    | str b => obtain ⟨t, rfl⟩ := rx; obtain ⟨t', rfl⟩ := ry; exact SeqAt.RcNeAt.str_str b t b t' _ _ _ _ (by simpa using fin)
    | _ => exact absurd (show false = true from f) Bool.false_ne_true
  | @lst a xs ha f =>
    cases rx; cases ry
    obtain ⟨its, r, pl, hz⟩ := I.list (SqL.of (K := X.K) ha)
    refine SeqAt.RcNeAt.lists (e := fun _ => true) pl.isList pl.isList rfl hu (fun j _ _ => SeqAt.EqAt.same _) X.prog X.w _ _ ?_
    rw [all_yes']
    exact fin
  | @tup a xs ha f =>
    cases rx; cases ry
    obtain ⟨its, r, pl, hz⟩ := I.tuple (SqT.of (K := X.K) ha)
    refine SeqAt.RcNeAt.tuples (e := fun _ => true) pl pl hu (fun j _ _ => SeqAt.EqAt.same _) X.prog X.w _ _ ?_
    rw [all_yes', beq_self_eq_true]
    exact fin
  | @dic a ha => exact absurd ha (nd a rfl)
end
end L2
namespace Bs
open PySem L2 AC
section
variable {g : Str} {ws ss ls : List Str} {p : Str}
def blkF (ws ss : List Str) (p : Str) (r : Str) : Option (Str × Str) := if bears ws (p ++ r) = true then none else some (r, lend ss (p ++ r))
/-- what is due, row by row -/
def dueF (ws ss ls : List Str) (p : Str) (r : Str) : Option (Str × Str) := if bears ws (p ++ r) = true then none else if lend ss (p ++ r) ∈ ls then some (r, lend ss (p ++ r)) else none
end
end Bs
namespace L2
open PySem Bs
/-- the parts of told blocks -/
def dPair (q : Str × Str) : Dat := .tup [.at (.str q.1), .at (.str q.2)]
end L2
namespace Sx
open PySem L2 Bs
def spCLE (C CN : Addr) : Sp := fun vs H Q E => ∃ (x : Addr) (v : V) (g : Str) (ws ss ls : List Str), vs = [.ref x, v] ∧ BandAt C H x g ws ss ls ∧ Thing H v ∧ ((∃ p, v = .str p ∧ p ∈ ls ∧ Q .non H) ∨ ((∀ p ∈ ls, v ≠ .str p) ∧ NoPl CN v H E))
def spBlocksE (C CN : Addr) : Sp := fun vs H Q E => ∃ (x : Addr) (v : V) (n : Nat) (g : Str) (ws ss ls : List Str), vs = [.ref x, v, .int (n : Int)] ∧ BandAt C H x g ws ss ls ∧ Thing H v ∧ g.length ^ n ≤ 100 ∧ n ≤ 10 ∧ 2 ≤ g.length ∧ g.length ≤ 10 ∧
  ((∃ p, v = .str p ∧ p ∈ ls ∧ ∀ (l' : Addr) (rs' : List Addr) (H' : Hp), Same H H' → H l' = none → RowsAt H' l' rs' (blocksOf g ws ss ls n p) → Q (.ref l') H') ∨ ((∀ p ∈ ls, v ≠ .str p) ∧ NoPl CN v H E))
def spLast21 (K : PySem.W.Frag) : Sp := fun vs H Q _ => ∃ (sa wa : Addr) (g : Str) (ws ss : List Str), vs = [.ref sa, .ref wa, .str g] ∧ SqL K H sa (ss.map V.str) ∧ SqL K H wa (ws.map V.str) ∧ ("" : Str) ∈ ss ∧ ss.length ≤ 900 ∧ ws.length ≤ 100 ∧ g.length ≤ 10 ∧ (∀ p ∈ ss, p.length ≤ 100) ∧
  ∀ (l : Addr) (H' : Hp), Same H H' → H l = none → H' l = some (.lst ((rounds ss (rowOf g ws ss) ss.length).map V.str)) → Q (.ref l) H'
def spDue21 (K : PySem.W.Frag) : Sp := fun vs H Q _ => ∃ (p : Str) (n : Nat) (g : Str) (wa la sa : Addr) (ws ls ss : List Str), vs = [.str p, .int (n : Int), .str g, .ref wa, .ref la, .ref sa] ∧ SqL K H wa (ws.map V.str) ∧ SqL K H la (ls.map V.str) ∧ SqL K H sa (ss.map V.str) ∧ ("" : Str) ∈ ss ∧ ws.length ≤ 100 ∧ p.length ≤ 100 ∧ g.length ^ n ≤ 100 ∧ n ≤ 10 ∧ 2 ≤ g.length ∧ g.length ≤ 10 ∧
  ∀ (l : Addr) (rs : List Addr) (H' : Hp), Same H H' → H l = none → RowsAt H' l rs ((bck g n).filterMap (dueF ws ss ls p)) → Q (.ref l) H'
def spTexts21 : Sp := fun vs H Q _ => ∃ (l : Addr) (rs : List Addr) (qs : List (Str × Str)), vs = [.ref l] ∧ RowsAt H l rs qs ∧ ∀ H', Same H H' → Q (.bl true) H'
def spRef21 (C : Addr) : Sp := fun vs H Q _ => ∃ (x : Addr) (v : V) (n : Nat) (g : Str) (ws ss ls : List Str), vs = [.ref x, v, .int (n : Int)] ∧ BandAt C H x g ws ss ls ∧ Thing H v ∧ (∀ a, v = .ref a → H a ≠ some (.dK [])) ∧ g.length ^ n ≤ 100 ∧ n ≤ 10 ∧ 2 ≤ g.length ∧ g.length ≤ 10 ∧ (∀ p ∈ ls, v ≠ .str p) ∧ ∀ H', Same H H' → Q (.bl true) H'
end Sx

set_option Elab.async false
set_option linter.all false
set_option maxRecDepth 100000
set_option maxHeartbeats 4000000
namespace L2
open PySem PySem.Spec PyProof.Rows Sx
section
variable {X : Cx}
end
end L2

set_option Elab.async false
set_option linter.all false
set_option maxRecDepth 100000
set_option maxHeartbeats 4000000
namespace L2
open PySem PySem.Spec PyProof.Rows Sx
section
variable {X : Cx}
end
end L2

set_option Elab.async false
set_option linter.all false
set_option maxRecDepth 100000
set_option maxHeartbeats 4000000
namespace L2
open PySem PySem.Spec PyProof.Rows Sx Bs
/-! ### things read by depth, and what is new of them -/
theorem rd_same {H H' : Hp} {a : Addr} {o : HO} (s : Same H H') (h : Rd H a o) : Rd H' a o := by
  rcases h with e | ⟨z, e⟩
  · exact .inl (s _ _ e)
  · exact .inr ⟨z, s _ _ e⟩
mutual
theorem Rds.same {K : PySem.W.Frag} {H H' : Hp} (s : Same H H') : ∀ (d : Dat) (v : V), Rds K H d v → Rds K H' d v
  | .at _, _, h => h
  | .tup ds, _, h => by
    obtain ⟨a, xs, e, hs, hl⟩ := h
    exact ⟨a, xs, e, s _ _ hs, RdsL.same s ds xs hl⟩
  | .lst ds, _, h => by
    obtain ⟨a, xs, e, hs, hl⟩ := h
    exact ⟨a, xs, e, rd_same s hs, RdsL.same s ds xs hl⟩
theorem RdsL.same {K : PySem.W.Frag} {H H' : Hp} (s : Same H H') : ∀ (ds : List Dat) (xs : List V), RdsL K H ds xs → RdsL K H' ds xs
  | [], _, h => h
  | d :: ds, _, h => by
    obtain ⟨v, vs, e, hv, hl⟩ := h
    exact ⟨v, vs, e, Rds.same s d v hv, RdsL.same s ds vs hl⟩
end
theorem RdsL.len {K : PySem.W.Frag} {H : Hp} : ∀ {ds : List Dat} {xs : List V}, RdsL K H ds xs → xs.length = ds.length
  | [], xs, h => by
    have e : xs = [] := h
    subst e
    rfl
  | d :: ds, _, h => by
    obtain ⟨v, vs, rfl, _, hl⟩ := h
    rw [List.length_cons, List.length_cons, RdsL.len hl]
theorem RdsL.get {K : PySem.W.Frag} {H : Hp} : ∀ {ds : List Dat} {xs : List V}, RdsL K H ds xs → ∀ (i : Nat) (x : V), xs[i]? = some x → ∃ d, ds[i]? = some d ∧ Rds K H d x
  | [], _, h, i, x, e => by
    rw [show _ = [] from h] at e
    simp at e
  | d :: ds, _, h, i, x, e => by
    obtain ⟨v, vs, rfl, hv, hl⟩ := h
    cases i with
    | zero => cases e; exact ⟨d, rfl, hv⟩
    | succ i => exact RdsL.get hl i x e
theorem RdsL.at {K : PySem.W.Frag} {H : Hp} {ds : List Dat} {xs : List V} (h : RdsL K H ds xs) {i : Nat} {d : Dat} (e : ds[i]? = some d) : ∃ x, xs[i]? = some x ∧ Rds K H d x := by
  have hi : i < ds.length := (List.getElem?_eq_some_iff.mp e).1
  have hx : xs[i]? = some (xs[i]'(by rw [h.len]; exact hi)) := List.getElem?_eq_getElem _
  obtain ⟨d', e', r⟩ := h.get i _ hx
  rw [e] at e'
  cases e'
  exact ⟨_, hx, r⟩
/-- what is new in H' -/
def newIn (H H' : Hp) : Hp := fun a => match H a with
  | none => H' a
  | some _ => none
theorem newIn_sub (H H' : Hp) : Same (newIn H H') H' := fun a o e => by
  unfold newIn at e
  cases h : H a with
  | none => rw [h] at e; exact e
  | some z => rw [h] at e; cases e
theorem newIn_old {H0 H H' : Hp} (s : Same H0 H) : Same (newIn H H') (newIn H0 H') := fun a o e => by
  unfold newIn at e ⊢
  cases h : H a with
  | none => rw [h] at e; rw [none_of s h]; exact e
  | some z => rw [h] at e; cases e
theorem newIn_same {H H' H2 : Hp} (s : Same H' H2) : Same (newIn H H') (newIn H H2) := fun a o e => by
  unfold newIn at e ⊢
  cases h : H a with
  | none => rw [h] at e; exact s _ _ e
  | some z => rw [h] at e; cases e
theorem newIn_at {H H' : Hp} {a : Addr} {o : HO} (h : H a = none) (e : H' a = some o) : newIn H H' a = some o := by
  unfold newIn
  rw [h]
  exact e
end L2

set_option Elab.async false
set_option linter.all false
set_option maxRecDepth 100000
set_option maxHeartbeats 4000000
namespace L2
open PySem PySem.Spec PyProof.Rows Sx Bs
/-- the heap without an object -/
def offH (H : Hp) (x : Addr) : Hp := fun d => if d = x then none else H d
theorem off_at {H : Hp} {x d : Addr} {o : HO} (h : H d = some o) (hd : d ≠ x) : offH H x d = some o := by
  unfold offH
  rw [if_neg hd]
  exact h
theorem rd_off {H : Hp} {x C dx : Addr} {fs : List (Str × V)} (hx : H x = some (.ins C dx fs)) {d : Addr} {o : HO} (h : Rd H d o) (ho : ∀ z, o ≠ .ins C dx z) (hf : ∀ a b, HO.frz a b ≠ .ins C dx fs) : Rd (offH H x) d o := by
  rcases h with e | ⟨z, e⟩
  · exact .inl (off_at e fun q => by rw [q, hx] at e; exact ho fs (Option.some.inj e).symm)
  · exact .inr ⟨z, off_at e fun q => by rw [q, hx] at e; exact hf _ _ (Option.some.inj e).symm⟩
mutual
theorem Rds.off {K : PySem.W.Frag} {H : Hp} {x C dx : Addr} {fs : List (Str × V)} (hx : H x = some (.ins C dx fs)) : ∀ (d : Dat) (v : V), Rds K H d v → Rds K (offH H x) d v
  | .at _, _, h => h
  | .tup ds, _, h => by
    obtain ⟨a, xs, e, hs, hl⟩ := h
    exact ⟨a, xs, e, off_at hs (fun z => by rw [z, hx] at hs; cases hs), RdsL.off hx ds xs hl⟩
  | .lst ds, _, h => by
    obtain ⟨a, xs, e, hs, hl⟩ := h
    exact ⟨a, xs, e, rd_off hx hs (fun _ z => by cases z) (fun _ _ z => by cases z), RdsL.off hx ds xs hl⟩
theorem RdsL.off {K : PySem.W.Frag} {H : Hp} {x C dx : Addr} {fs : List (Str × V)} (hx : H x = some (.ins C dx fs)) : ∀ (ds : List Dat) (xs : List V), RdsL K H ds xs → RdsL K (offH H x) ds xs
  | [], _, h => h
  | d :: ds, _, h => by
    obtain ⟨v, vs, e, hv, hl⟩ := h
    exact ⟨v, vs, e, Rds.off hx d v hv, RdsL.off hx ds vs hl⟩
end
end L2
namespace Bs
open PySem L2 Sx
/-! ### sheets -/
def dStep (q : Str × Nat) : Dat := .tup [.at (.str q.1), .at (.int (q.2 : Int))]
def dLine (qs : List (Str × Nat)) : Dat := .lst (qs.map dStep)
def dLines (lns : List (List (Str × Nat))) : Dat := .lst (lns.map dLine)
def dStrs (hs : List Str) : Dat := .lst (hs.map fun h => .at (.str h))
def dInts (ws : List Int) : Dat := .lst (ws.map fun w => .at (.int w))
def stepQ (q : Str × Nat) : V × V := (.str q.1, .int (q.2 : Int))
def fldS1 (a : Addr) : List (Str × V) := [("homes", .ref a)]
def fldS2 (a b : Addr) : List (Str × V) := [("homes", .ref a), ("weights", .ref b)]
def fldS (a b c : Addr) : List (Str × V) := [("homes", .ref a), ("weights", .ref b), ("lines", .ref c)]
/-- a sheet, read by depth -/
structure SheetAt (K : PySem.W.Frag) (C : Addr) (H : Hp) (x : Addr) (hs : List Str) (ws : List Int) (lns : List (List (Str × Nat))) : Prop where
  ex : ∃ dx a b c, H x = some (.ins C dx (fldS a b c)) ∧ Rds K H (dStrs hs) (.ref a) ∧ Rds K H (dInts ws) (.ref b) ∧ Rds K H (dLines lns) (.ref c)
theorem SheetAt.same {K : PySem.W.Frag} {C : Addr} {H H' : Hp} {x : Addr} {hs : List Str} {ws : List Int} {lns : List (List (Str × Nat))} (h : SheetAt K C H x hs ws lns) (s : Same H H') : SheetAt K C H' x hs ws lns := by
  obtain ⟨dx, a, b, c, h1, h2, h3, h4⟩ := h
  exact ⟨dx, a, b, c, s _ _ h1, Rds.same s _ _ h2, Rds.same s _ _ h3, Rds.same s _ _ h4⟩
end Bs
namespace Sx
open PySem L2 Bs
def spCopied (K : PySem.W.Frag) : Sp := fun vs H Q _ => ∃ (v : V) (qs : List (Str × Nat)), vs = [v] ∧ Rds K H (dLine qs) v ∧ qs.length ≤ 10000 ∧ ∀ y H', Same H H' → Rds K (newIn H H') (dLine qs) y → Q y H'
def spSheetI (K : PySem.W.Frag) (C : Addr) : Sp := fun vs H Q _ => ∃ (x dx : Addr) (u v w : V) (hs : List Str) (ws : List Int) (lns : List (List (Str × Nat))), vs = [.ref x, u, v, w] ∧ H x = some (.ins C dx []) ∧ Rds K H (dStrs hs) u ∧ Rds K H (dInts ws) v ∧ Rds K H (dLines lns) w ∧ hs.length ≤ 10000 ∧ ws.length ≤ 10000 ∧ lns.length ≤ 10000 ∧ (∀ l ∈ lns, l.length ≤ 10000) ∧
  ∀ a b c H', H' x = some (.ins C dx (fldS a b c)) → Rds K (newIn H H') (dStrs hs) (.ref a) → Rds K (newIn H H') (dInts ws) (.ref b) → Rds K (newIn H H') (dLines lns) (.ref c) → (∀ b o, H b = some o → b ≠ x → H' b = some o) → Q .non H'
end Sx
namespace Bs
open PySem L2 Sx
/-- the desks' places of the first sheet, and their steps -/
def homesOf (ls : List Str) (f : Str → Int) : List Str := ls.filter fun p => decide (0 < f p)
def lineOf (g : Str) (ws ss ls : List Str) (n : Nat) (hs : List Str) (p : Str) : List (Str × Nat) := ((blocksOf g ws ss ls n p).filter fun q => decide (q.2 ∈ hs)).map fun q => (q.1, hs.idxOf q.2)
def dlinesOf (g : Str) (ws ss ls : List Str) (n : Nat) (hs : List Str) : List (List (Str × Nat)) := hs.map (lineOf g ws ss ls n hs)
end Bs
namespace Sx
open PySem L2 Bs
def spFirst (K : PySem.W.Frag) (C CS : Addr) : Sp := fun vs H Q _ => ∃ (x d : Addr) (many : Int) (n : Nat) (m : List (Str × Int)) (f : Str → Int) (g : Str) (ws ss ls : List Str), vs = [.ref x, .int many, .int (n : Int), .ref d] ∧ BandAt C H x g ws ss ls ∧ 2 ≤ g.length ∧ g.length ≤ 10 ∧ ss.length ≤ 900 ∧ IsRate g.length many n ∧ Rd H d (.dK (iRows m)) ∧ WtOk m ls f ∧
  ∀ (y : Addr) (H' : Hp), Same H H' → SheetAt K CS (newIn H H') y (homesOf ls f) ((homesOf ls f).map f) (dlinesOf g ws ss ls n (homesOf ls f)) → Q (.ref y) H'
end Sx
namespace L2
open PySem PySem.Spec PyProof.Rows Sx
section
variable {X : Cx}
end
end L2
namespace L2
open PySem
theorem TyOf.rd {K : PySem.W.Frag} {H : Hp} {a : Addr} {xs : List V} (h : Rd H a (.lst xs)) : TyOf K H (.ref a) (.type "list") := by
  rcases h with e | ⟨o, e⟩
  · exact .lst e
  · exact .frz e
end L2

set_option Elab.async false
set_option linter.all false
set_option maxRecDepth 100000
set_option maxHeartbeats 4000000
namespace PySem
section
variable {P : Program} {W0 : World} {B : Around} {R : Result → Shared → Prop} {I : Addr} {fp wr : List Addr} {n : Nat} {Pr : Nat → Value → Prop} {St : Nat → Heap → Prop}
/-- the rest of the walk of max, with a default that is not needed any more -/
theorem max_walk_dflt (W : Walks P W0 B.in1 I fp wr n Pr St) (bt : Nat → Nat → Bool) (cmp : CmpOf P W0 B.in1 .Gt Pr bt) (S : Addr) (nS : S ∉ fp) (kw : List (Str × Value)) :
    ∀ (k j : Nat) (z : Shared) (best : Value) (c : Nat), n - (j + 1) = k → j + 1 ≤ n → St (j + 1) z.heap → Pr (argBest bt j) best → z.heap.get? S = some { cls := .type "list", dict := none, data := .seq #[best, best] c, slots := #[] } →
    (∀ v h' tk, Pr (argBest bt (n - 1)) v → (∀ b o, b ∉ wr → b ≠ S → z.heap.get? b = some o → h'.get? b = some o) → R (.ok (.ret v)) { z with heap := h', toks := tk }) →
    codeAny (model P W0) B (.builtin "max.loop" ⟨[.ref I, .none, .ref S], kw⟩) R z := by
  have nSw : S ∉ wr := fun h => nS (W.sub _ h)
  have nm : (toString "max" ++ toString ".loop" : String) = "max.loop" := by decide
  intro k
  induction k with
  | zero =>
    intro j z best c hk hj st pb gS fin
    have last : j + 1 = n := by omega
    refine codeAny_builtin F.entry_max_loop ?_
    rw [Around.under_plainId F.plain_max_loop _]
    show wpAny _ B.in1 (seqItems? (.ref S) >>= _) _ _ z
    refine wpAny_bind (wpAny_seqItems gS rfl ?_)
    show wpAny _ B.in1 (tryCatch (pyNext (.ref I)) _ >>= _) _ _ z
    refine wpAny_bind (wpAny_tryCatch (W.done z _ _ (last ▸ st) fun h' tk kp => ?_))
    have gS' := kp S _ nSw gS
    show wpAny _ B.in1 (updateSeq S (fun _ => #[]) >>= _) _ _ _
    refine wpAny_bind (wpAny_updateSeq gS' rfl (wpAny_bind (wpAny_letGo (wpAny_pure ?_))))
    exact fin best _ tk (by rw [← last]; exact pb) fun b o h1 h2 e => (Heap.get?_update_other _ _ (Ne.symm h2)).trans (kp b o h1 e)
  | succ k ih =>
    intro j z best c hk hj st pb gS fin
    have more : j + 1 < n := by omega
    refine codeAny_builtin F.entry_max_loop ?_
    rw [Around.under_plainId F.plain_max_loop _]
    show wpAny _ B.in1 (seqItems? (.ref S) >>= _) _ _ z
    refine wpAny_bind (wpAny_seqItems gS rfl ?_)
    show wpAny _ B.in1 (tryCatch (pyNext (.ref I)) _ >>= _) _ _ z
    refine wpAny_bind (wpAny_tryCatch (W.item (j + 1) z _ _ more st fun v h' tk hP st' kp => ?_))
    have gS' := kp S _ nSw gS
    show wpAny _ B.in1 (tryCatch (holding [v, v] (richCompare .Gt v best >>= _)) _ >>= _) _ _ _
    refine wpAny_bind (wpAny_tryCatch (wpAny_holding (wpAny_bind (cmp (j + 1) (argBest bt j) v best _ _ _ hP pb ?_))))
    refine wpAny_bind (wpAny_holding (wpAny_truthy_bool (wpAny_bind (wpAny_letGo (wpAny_pure ?_)))))
    cases hb : bt (j + 1) (argBest bt j) with
    | true =>
      simp only [if_true]
      refine wpAny_bind (wpAny_updateSeq gS' rfl (wpAny_bind (wpAny_letGo ?_)))
      rw [nm]
      refine wpAny_pure ⟨plainId_quiet F.plain_max_loop _, ih (j + 1) _ v _ (by omega) more (W.frame _ _ _ st' fun b hbf o e => ?_) (by simp only [argBest, hb, if_true]; exact hP) (Heap.get?_update_self _ gS' rfl) fun v' h2 tk2 hP' kp2 => ?_⟩
      · exact (Heap.get?_update_other _ _ (fun h : S = b => nS (by rw [h]; exact hbf))).trans e
      · exact fin v' h2 tk2 hP' fun b o h1 h3 e => kp2 b o h1 h3 ((Heap.get?_update_other _ _ (Ne.symm h3)).trans (kp b o h1 e))
    | false =>
      simp only [Bool.false_eq_true, if_false]
      refine wpAny_bind (wpAny_letGo ?_)
      rw [nm]
      refine wpAny_pure ⟨plainId_quiet F.plain_max_loop _, ih (j + 1) _ best c (by omega) more st' (by simp only [argBest, hb, Bool.false_eq_true, if_false]; exact pb) gS' fun v' h2 tk2 hP' kp2 => ?_⟩
      exact fin v' h2 tk2 hP' fun b o h1 h3 e => kp2 b o h1 h3 (kp b o h1 e)
/-- the first step: one thing at least -/
theorem max_first_dflt (W : Walks P W0 B.in1 I fp wr n Pr St) (bt : Nat → Nat → Bool) (cmp : CmpOf P W0 B.in1 .Gt Pr bt) (S : Addr) (nS : S ∉ fp) (kw : List (Str × Value)) (pos : 0 < n) {z : Shared} {c : Nat} (st : St 0 z.heap) (gS : z.heap.get? S = some { cls := .type "list", dict := none, data := .seq #[] c, slots := #[] })
    (fin : ∀ v h' tk, Pr (argBest bt (n - 1)) v → (∀ b o, b ∉ wr → b ≠ S → z.heap.get? b = some o → h'.get? b = some o) → R (.ok (.ret v)) { z with heap := h', toks := tk }) : codeAny (model P W0) B (.builtin "max.loop" ⟨[.ref I, .none, .ref S], kw⟩) R z := by
  have nSw : S ∉ wr := fun h => nS (W.sub _ h)
  have nm : (toString "max" ++ toString ".loop" : String) = "max.loop" := by decide
  refine codeAny_builtin F.entry_max_loop ?_
  rw [Around.under_plainId F.plain_max_loop _]
  show wpAny _ B.in1 (seqItems? (.ref S) >>= _) _ _ z
  refine wpAny_bind (wpAny_seqItems gS rfl ?_)
  show wpAny _ B.in1 (tryCatch (pyNext (.ref I)) _ >>= _) _ _ z
  refine wpAny_bind (wpAny_tryCatch (W.item 0 z _ _ pos st fun v h' tk hP st' kp => ?_))
  have gS' := kp S _ nSw gS
  show wpAny _ B.in1 (updateSeq S (fun _ => #[v, v]) >>= _) _ _ _
  refine wpAny_bind (wpAny_updateSeq gS' rfl ?_)
  rw [nm]
  refine wpAny_pure ⟨plainId_quiet F.plain_max_loop _, max_walk_dflt W bt cmp S nS kw _ 0 _ v _ rfl pos (W.frame _ _ _ st' fun b hbf o e => ?_) hP (Heap.get?_update_self _ gS' rfl) fun v' h2 tk2 hP' kp2 => ?_⟩
  · exact (Heap.get?_update_other _ _ (fun h : S = b => nS (by rw [h]; exact hbf))).trans e
  · exact fin v' h2 tk2 hP' fun b o h1 h3 e => kp2 b o h1 h3 ((Heap.get?_update_other _ _ (Ne.symm h3)).trans (kp b o h1 e))
/-- and none: the default -/
theorem max_none_dflt (W : Walks P W0 B.in1 I fp wr n Pr St) (S : Addr) (nS : S ∉ fp) (dv : Value) (none' : n = 0) {z : Shared} {c : Nat} (st : St 0 z.heap) (gS : z.heap.get? S = some { cls := .type "list", dict := none, data := .seq #[] c, slots := #[] })
    (fin : ∀ h' tk, (∀ b o, b ∉ wr → b ≠ S → z.heap.get? b = some o → h'.get? b = some o) → R (.ok (.ret dv)) { z with heap := h', toks := tk }) : codeAny (model P W0) B (.builtin "max.loop" ⟨[.ref I, .none, .ref S], [(Str.ofString "default", dv)]⟩) R z := by
  refine codeAny_builtin F.entry_max_loop ?_
  rw [Around.under_plainId F.plain_max_loop _]
  show wpAny _ B.in1 (seqItems? (.ref S) >>= _) _ _ z
  refine wpAny_bind (wpAny_seqItems gS rfl ?_)
  show wpAny _ B.in1 (tryCatch (pyNext (.ref I)) _ >>= _) _ _ z
  refine wpAny_bind (wpAny_tryCatch (W.done z _ _ (none' ▸ st) fun h' tk kp => ?_))
  have done := fin h' tk fun b o h1 _ e => kp b o h1 e
  wp_walk
  exact done
end
section
variable {P : Program} {W0 : World} {B : Around} {E : Value → Shared → Prop} {z : Shared}
theorem args_max_dflt (a v : Value) : argsOk "max" ⟨[a], [(Str.ofString "default", v)]⟩ := by unfold argsOk; kernel_rfl
/-- max(list of whole numbers, default=d) -/
theorem max_ints_dflt {l : Addr} {xs : Array (Int × Tok)} {dv : Value} {Q : Value → Shared → Prop} (hh : B.handled = none) (il : z.heap.IsList l (intItems xs))
    (he : xs.size = 0 → ∀ h' tk, (∀ b o, z.heap.get? b = some o → h'.get? b = some o) → Q dv { z with heap := h', toks := tk })
    (hn : 0 < xs.size → ∀ v h' tk, (intItems xs)[argBest (fun i j => decide (numAt xs i > numAt xs j)) (xs.size - 1)]? = some v → (∀ b o, z.heap.get? b = some o → h'.get? b = some o) → Q v { z with heap := h', toks := tk }) :
    wpAny (model P W0) B (call (.builtin "max") [.ref l] [(Str.ofString "default", dv)]) Q E z := by
  have nm : (toString "max" ++ toString ".loop" : String) = "max.loop" := by decide
  refine PyProof.Rows.kmk_tree F.kind_max F.plain_max F.entry_max (args_max_dflt _ _) ?_
  show wpAny _ B.in1 (Builtin.Builtins.bindParams "max" ["key", "default"] 0 ⟨[], [(Str.ofString "default", dv)]⟩ >>= _) _ _ z
  refine wpAny_bind (wpAny_of_eq (show Builtin.Builtins.bindParams "max" ["key", "default"] 0 ⟨[], [(Str.ofString "default", dv)]⟩ = pure [none, some dv] from rfl) ?_)
  refine wpAny_bind (wpAny_pure (wpAny_bind (iter_intList il fun s₂ e st hfp hlI => ?_)))
  subst e
  refine wpAny_bind (wpAny_newObj_type ?_)
  rw [nm]
  have W := Walks.list (prog := P) (w := W0) (A := B.in1) hh z.heap.objs.size l hlI (intItems xs)
  have nS : (z.heap.push { cls := .type "list_iterator", data := .fields #[.ref l, .int 0 0] }).objs.size ∉ [z.heap.objs.size, l] := fun hm => Nat.lt_irrefl _ (hfp _ hm)
  have keep : ∀ {h' : Heap}, (∀ b o, b ∉ [z.heap.objs.size] → b ≠ (z.heap.push { cls := .type "list_iterator", data := .fields #[.ref l, .int 0 0] }).objs.size → ((z.heap.push { cls := .type "list_iterator", data := .fields #[.ref l, .int 0 0] }).push { cls := .type "list", data := .seq #[] }).get? b = some o → h'.get? b = some o) → ∀ b o, z.heap.get? b = some o → h'.get? b = some o := fun {h'} hk b o e => by
    have lt := Heap.lt_size e
    refine hk b o (fun hm => ?_) (fun h => ?_) (Heap.get?_push_of_some _ (Heap.get?_push_of_some _ e))
    · rw [List.mem_singleton.mp hm] at lt
      exact Nat.lt_irrefl _ lt
    · rw [Heap.size_push] at h
      rw [h] at lt
      exact absurd (show z.heap.objs.size + 1 < z.heap.objs.size from lt) (by omega)
  by_cases h0 : xs.size = 0
  · refine wpAny_pure ⟨plainId_quiet F.plain_max_loop _, max_none_dflt W _ nS dv (by simp [intItems, h0]) (W.frame _ _ _ st fun b _ o e => Heap.get?_push_of_some _ e) (Heap.get?_push_size _ rfl) fun h' tk hk => ?_⟩
    exact he h0 h' tk (keep hk)
  · refine wpAny_pure ⟨plainId_quiet F.plain_max_loop _, max_first_dflt W _ (CmpOf.ints_gt (numAt xs) (fun _ _ => intItems_at)) _ nS _ (by simp [intItems]; omega) (W.frame _ _ _ st fun b _ o e => Heap.get?_push_of_some _ e) (Heap.get?_push_size _ rfl) fun v h' tk hP hk => ?_⟩
    exact hn (by omega) v h' tk (by simpa [intItems] using hP) (keep hk)
end
end PySem
namespace L2
open PySem PySem.Spec PyProof.Rows Sx
section
variable {X : Cx} {e e2 : Expr} {te t2 : TE} {p kp pos : Pos}
/-- max(e, default=d) -/
def tMaxD (K : PySem.W.Frag) (te t2 : TE) : TE := fun σ H Q => te σ H fun x H1 => t2 σ H1 fun y H2 => ∃ a ns d, x = .ref a ∧ y = .int d ∧ SqL K H2 a (List.map V.int ns) ∧ (ns = [] → Q (.int d) H2) ∧ (∀ M, M ∈ ns → (∀ a ∈ ns, a ≤ M) → Q (.int M) H2)
theorem call_maxD (hc : X.calm = true) {pins : List (Addr × Obj)} {σ : St} {H : Hp} {s : Shared} {a : Addr} {ns : List Int} {d : Int} {v : Value} {Q : VK} (I : Inv X pins σ H s) (rv : RelV (.int d) v) (hq : SqL X.K H a (List.map V.int ns)) (h0 : ns = [] → Q (.int d) H) (h1 : ∀ M, M ∈ ns → (∀ a ∈ ns, a ≤ M) → Q (.int M) H) :
    wpAny (model X.prog X.w) X.A (call (.builtin "max") [.ref a] [(Str.ofString "default", v)]) (EP X pins σ Q) X.xe s := by
  obtain ⟨its, r, pl, hz⟩ := I.list hq
  obtain ⟨ys, e, rfl⟩ := ints_items r
  have hl : s.heap.IsList a (intItems ys.toArray) := by
    have : intItems ys.toArray = its.toArray := by rw [e]; unfold intItems; simp
    rw [this]
    exact pl.isList
  refine max_ints_dflt (I.ok.hd hc) hl (fun hs h' tk hk => ?_) (fun hs v' h' tk hv hk => ?_)
  · have : ys = [] := by
      rw [List.size_toArray] at hs
      exact List.eq_nil_of_length_eq_zero hs
    subst this
    exact ⟨.int d, H, I.kept hk, rv, h0 rfl⟩
  · obtain ⟨t, rfl⟩ := intItems_at hv
    obtain ⟨q1, q2⟩ := argBest_gt (numAt ys.toArray) (ys.toArray.size - 1)
    refine ⟨.int _, H, I.kept hk, ⟨t, rfl⟩, h1 _ ?_ fun b hb => ?_⟩
    · rw [numAt_eq]
      exact getD_mem (by rw [List.length_map]; simp only [List.size_toArray] at *; omega)
    · obtain ⟨j, hj, rfl⟩ := mem_getD hb
      rw [List.length_map] at hj
      have := q2 j (by simp only [List.size_toArray] at *; omega)
      rw [numAt_eq] at this
      exact this
end
end L2

set_option Elab.async false
set_option linter.all false
set_option maxRecDepth 100000
set_option maxHeartbeats 4000000
namespace L2
open PySem PySem.Spec PyProof.Rows Sx
section
variable {X : Cx} {e e2 : Expr} {t : TA} {t2 : TE} {p kp pos : Pos}
/-- max(e, default=d) -/
def tMaxK (K : PySem.W.Frag) (t : TA) (t2 : TE) : TE := fun σ H Q => t σ H fun vs H1 => t2 σ H1 fun y H2 => ∃ a ns d, vs = [.ref a] ∧ y = .int d ∧ SqL K H2 a (List.map V.int ns) ∧ (ns = [] → Q (.int d) H2) ∧ (∀ M, M ∈ ns → (∀ a ∈ ns, a ≤ M) → Q (.int M) H2)
theorem pe_maxK (hc : X.calm = true) (hg : Gl X "max") (hm : X.mg "max" = none) (ha : PA X [e] t) (hd : PE X e2 t2) (hs : starEach [e] X.env = [(false, eval e X.env)] := by rfl) : PE X (.Call (.Name "max" p) [e] [⟨some "default", e2, kp⟩] pos) (tMaxK X.K t t2) := by
  intro pins s σ H Q I h
  refine wpAny_Call_Name_kw (ld_blt I hg hm (show bootBuiltins "max" = some (.builtin "max") from bMax') ?_ (by decide) (by decide))
  refine PyProof.Rows.callWith_kw (thn (ha pos pins s σ H _ I h) fun us s1 ⟨vs, H1, I1, r1, q1⟩ => ?_) (by rw [hs]; rfl) (by rw [hs]; rfl)
  refine PyProof.Rows.kws_cons (thn (hd pins s1 σ H1 _ I1 q1) fun v s2 ⟨y, H2, I2, r2, q2⟩ => PyProof.Rows.kws_nil ?_)
  obtain ⟨a, ns, d, rfl, rfl, hq, h0, h1⟩ := q2
  obtain ⟨u, rfl, rx⟩ := vals1 r1
  cases rx
  exact call_maxD hc I2 r2 hq h0 h1
end
end L2

set_option Elab.async false
set_option linter.all false
set_option maxRecDepth 100000
set_option maxHeartbeats 4000000
namespace L2
open PySem PySem.Spec PyProof.Rows Sx Bs
def tCompS2 (K : PySem.W.Frag) (wi : TI) (ix : List Nat) (tt : TT) (te : TE) (i : Nat) : TS := fun D σ H => wi σ H fun J H1 => ∀ l, H1 l = none → CompW2 K J l (pick σ ix) tt te H1 (fun H2 => D.nx (σ.set i (some (.ref l))) H2)
section
variable {X : Cx} {scope : Scope} {x x2 : Str} {ys : List Str} {ix : List Nat}
/-- + of lists that may be frozen -/
def rCatR : R2 := fun x y H Q => ∃ l b xs zs, x = .ref l ∧ y = .ref b ∧ Rd H l (.lst xs) ∧ Rd H b (.lst zs) ∧ xs.length + zs.length ≤ sizeLine ∧ ∀ p, H p = none → Q (.ref p) (upd H p (.lst (xs ++ zs)))
/-- a list against the empty one -/
def rNeE (K : PySem.W.Frag) : R2 := fun x y H Q => ∃ a b xs, x = .ref a ∧ y = .ref b ∧ SqL K H a xs ∧ SqL K H b [] ∧ Q (.bl (!xs.isEmpty)) H
end
/-- the items whose number passes -/
def pickF {α : Type} (p : Nat → Bool) : Nat → List α → List α
  | _, [] => []
  | i, x :: xs => if p i then x :: pickF p (i + 1) xs else pickF p (i + 1) xs
theorem RdsL.pick {K : PySem.W.Frag} {H : Hp} (p : Nat → Bool) : ∀ (k : Nat) (ds : List Dat) (xs : List V), RdsL K H ds xs → RdsL K H (pickF p k ds) (pickF p k xs)
  | _, [], xs, h => by
    have e : xs = [] := h
    subst e
    rfl
  | k, d :: ds, _, h => by
    obtain ⟨v, vs, rfl, hv, hl⟩ := h
    have ih := RdsL.pick p (k + 1) ds vs hl
    show RdsL K H (if p k then d :: pickF p (k + 1) ds else pickF p (k + 1) ds) (if p k then v :: pickF p (k + 1) vs else pickF p (k + 1) vs)
    cases p k with
    | true => exact ⟨v, _, rfl, hv, ih⟩
    | false => exact ih
theorem RdsL.set {K : PySem.W.Frag} {H : Hp} {d : Dat} {v : V} : ∀ {ds : List Dat} {xs : List V}, RdsL K H ds xs → ∀ i : Nat, Rds K H d v → RdsL K H (ds.set i d) (xs.set i v)
  | [], xs, h, i, r => by
    have e : xs = [] := h
    subst e
    exact h
  | d0 :: ds, _, h, 0, r => by
    obtain ⟨v0, vs, rfl, hv, hl⟩ := h
    exact ⟨v, vs, rfl, r, hl⟩
  | d0 :: ds, _, h, i + 1, r => by
    obtain ⟨v0, vs, rfl, hv, hl⟩ := h
    exact ⟨v0, vs.set i v, rfl, hv, RdsL.set hl i r⟩
theorem flat_ints (ns : List Int) : (ns.map V.int).all flatV = true := List.all_eq_true.mpr fun v hv => by
  obtain ⟨i, _, rfl⟩ := List.mem_map.mp hv
  rfl
end L2
namespace Bs
open PySem L2 Sx
/-! ### splits -/
def numOk (i : Int) (n : Nat) : Bool := decide (0 ≤ i) && decide (i < (n : Int))
def stepSum (ws : List Int) (qs : List (Str × Nat)) : Int := (qs.map fun q => ws.getD q.2 0).sum
def partOk (ws : List Int) (many : Int) (qs : List (Str × Nat)) (w : Int) : Bool := !qs.isEmpty && (decide (1 ≤ w) && decide (many * w ≤ stepSum ws qs))
def chosenOf {α : Type} (ns : List Int) (l : List α) : List α := pickF (fun i => decide ((i : Int) ∈ ns)) 0 l
def othersOf {α : Type} (ns : List Int) (l : List α) : List α := pickF (fun i => !decide ((i : Int) ∈ ns)) 0 l
def twins (d t : Nat) (l : List (Str × Nat)) : List (Str × Nat) := l.flatMap fun q => if q.2 = d then [q, (q.1, t)] else [q]
def splitOk (ws : List Int) (lns : List (List (Str × Nat))) (many desk : Int) (ns : List Int) (w : Int) : Bool :=
  numOk desk lns.length && (ns.all (fun i => numOk i (lns.getD desk.toNat []).length) && (partOk ws many (chosenOf ns (lns.getD desk.toNat [])) w && partOk ws many (othersOf ns (lns.getD desk.toNat [])) (ws.getD desk.toNat 0 - w)))
def splitH (hs : List Str) (d : Nat) : List Str := hs ++ [hs.getD d ""]
def splitW (ws : List Int) (d : Nat) (w : Int) : List Int := (ws ++ [ws.getD d 0 - w]).set d w
def splitL (lns : List (List (Str × Nat))) (d : Nat) (ns : List Int) : List (List (Str × Nat)) := ((lns ++ [othersOf ns (lns.getD d [])]).set d (chosenOf ns (lns.getD d []))).map (twins d lns.length)
/-- the sheet is whole: every desk has a home, a weight and a line, and every step leads to a desk -/
structure Whole (hs : List Str) (ws : List Int) (lns : List (List (Str × Nat))) : Prop where
  w : ws.length = hs.length
  l : lns.length = hs.length
  e : ∀ l ∈ lns, ∀ q ∈ l, q.2 < hs.length
  n : hs.length ≤ 1000
  m : ∀ l ∈ lns, l.length ≤ 5000
end Bs
namespace Sx
open PySem L2 Bs
def spNumOf (K : PySem.W.Frag) : Sp := fun vs H Q _ => ∃ (i : Int) (a : Addr) (xs : List V), vs = [.int i, .ref a] ∧ SqL K H a xs ∧ Q (.bl (numOk i xs.length)) H
def spPart (K : PySem.W.Frag) (CS CN : Addr) : Sp := fun vs H Q E => ∃ (x : Addr) (many : Int) (v : V) (w : Int) (hs : List Str) (ws : List Int) (lns : List (List (Str × Nat))) (qs : List (Str × Nat)), vs = [.ref x, .int many, v, .int w] ∧ SheetAt K CS H x hs ws lns ∧ Rds K H (dLine qs) v ∧ qs.length ≤ 10000 ∧ (∀ q ∈ qs, q.2 < ws.length) ∧ 0 ≤ many ∧ many ≤ 1000 ∧
  ((partOk ws many qs w = true ∧ ∀ H', Same H H' → Q .non H') ∨ (partOk ws many qs w = false ∧ ∀ H', Same H H' → E (.ref CN) none H'))
def spTwins (K : PySem.W.Frag) : Sp := fun vs H Q _ => ∃ (v : V) (d t : Nat) (qs : List (Str × Nat)), vs = [v, .int (d : Int), .int (t : Int)] ∧ Rds K H (dLine qs) v ∧ qs.length ≤ 5000 ∧ ∀ y H', Same H H' → Rds K (newIn H H') (dLine (twins d t qs)) y → Q y H'
def spSplit (K : PySem.W.Frag) (CS CN : Addr) : Sp := fun vs H Q E => ∃ (x a : Addr) (many desk w : Int) (ns : List Int) (hs : List Str) (ws : List Int) (lns : List (List (Str × Nat))), vs = [.ref x, .int many, .int desk, .ref a, .int w] ∧ SheetAt K CS H x hs ws lns ∧ SqL K H a (ns.map V.int) ∧ ns.length ≤ 10000 ∧ Whole hs ws lns ∧ 0 ≤ many ∧ many ≤ 1000 ∧
  ((splitOk ws lns many desk ns w = true ∧ ∀ y H', Same H H' → SheetAt K CS (newIn H H') y (splitH hs desk.toNat) (splitW ws desk.toNat w) (splitL lns desk.toNat ns) → Q (.ref y) H') ∨ (splitOk ws lns many desk ns w = false ∧ ∀ H', Same H H' → E (.ref CN) none H'))
end Sx

set_option Elab.async false
set_option linter.all false
set_option maxRecDepth 100000
set_option maxHeartbeats 4000000
namespace L2
open PySem PySem.Spec PyProof.Rows Sx Bs
section
variable {X : Cx}
/-- two lists of the same things are not unlike -/
def rNeSame (K : PySem.W.Frag) : R2 := fun x y H Q => ∃ a b xs, x = .ref a ∧ y = .ref b ∧ SqL K H a xs ∧ SqL K H b xs ∧ (∀ v ∈ xs, okLeaf v = true ∨ ∃ c, v = .ref c) ∧ Q (.bl false) H
theorem op_neSame (hu : X.A.units < cLine) : OpR X (compareOp .NotEq) (rNeSame X.K) := by
  intro pins s σ H x y v u Q I rx ry h
  obtain ⟨a, b, xs, rfl, rfl, ha, hb, hf, q⟩ := h
  cases rx
  cases ry
  obtain ⟨its, r1, p1, _⟩ := I.list ha
  obtain ⟨its2, r2, p2, _⟩ := I.list hb
  have e1 := r1.length
  have e2 := r2.length
  refine SeqAt.RcNeAt.lists (e := fun j => true) p1.isList p2.isList (by simp only [List.size_toArray]; omega) hu (fun j h1 h2 => ?_) X.prog X.w _ _ ?_
  · have h1' : j < its.length := by simpa using h1
    have h2' : j < its2.length := by simpa using h2
    have hx : xs[j]? = some (xs.getD j .non) := by rw [List.getD_eq_getElem?_getD]; simp [show j < xs.length by omega]
    obtain ⟨u1, q1, w1⟩ := r1.get hx
    obtain ⟨u2, q2, w2⟩ := r2.get hx
    have g1 : its.toArray[j] = u1 := by
      have : its[j]? = some its[j] := by simp [h1']
      rw [this] at q1
      simpa using Option.some.inj q1
    have g2 : its2.toArray[j] = u2 := by
      have : its2[j]? = some its2[j] := by simp [h2']
      rw [this] at q2
      simpa using Option.some.inj q2
    rw [g1, g2]
    rcases hf _ (List.mem_of_getElem? hx) with f | ⟨c, ec⟩
    · have ff : flatV (xs.getD j .non) = true := by
        generalize xs.getD j V.non = z at f
        cases z <;> first | rfl | cases f
      show SeqAt.EqAt _ s u1 u2 true
      rw [← leaf_same f]
      exact eqAt_V w1 w2 ff ff
    · rw [ec] at w1 w2
      cases w1
      cases w2
      exact SeqAt.EqAt.same _
  · refine ⟨.bl _, H, I, rfl, ?_⟩
    rw [all_yes']
    exact q
end
theorem firstD_has (val : Nat → Str) {i : Nat} : ∀ n, i < n → (firstD val n).any (· == val i) = true
  | 0, h => absurd h (Nat.not_lt_zero _)
  | n + 1, h => by
    rw [firstD_succ, stepD_any]
    by_cases e : i = n
    · subst e
      simp
    · rw [firstD_has val n (by omega), Bool.true_or]
theorem firstD_dup (val : Nat → Str) {i j : Nat} (hij : i < j) (e : val i = val j) : ∀ n, j < n → (firstD val n).length < n
  | 0, h => absurd h (Nat.not_lt_zero _)
  | n + 1, h => by
    rw [firstD_succ, stepD_length]
    by_cases q : j = n
    · subst q
      rw [← e, firstD_has val j hij, if_pos rfl]
      have := firstD_le val j
      omega
    · have := firstD_dup val hij e n (by omega)
      split <;> omega
end L2
namespace Bs
open PySem L2 Sx
/-- no signs of a band's -/
def NotSg (z : Str) : Prop := z.length < 2 ∨ 4 < z.length ∨ (∃ c ∈ ch z, c ∉ ch poolS) ∨ ∃ i j, i < j ∧ j < z.length ∧ signAt z i = signAt z j
def NoSg (H : Hp) (v : V) : Prop := Thing H v ∧ ∀ z, v = .str z → NotSg z ∧ z.length ≤ 100
def NotWd (g z : Str) : Prop := z.length < 1 ∨ 5 < z.length ∨ ∃ c ∈ ch z, c ∉ ch g
def NoWd (g : Str) (H : Hp) (v : V) : Prop := Thing H v ∧ ∀ z, v = .str z → NotWd g z ∧ z.length ≤ 100
theorem NoSg.same {H H' : Hp} {v : V} (h : NoSg H v) (s : Same H H') : NoSg H' v := ⟨h.1.same s, h.2⟩
theorem NoWd.same {g : Str} {H H' : Hp} {v : V} (h : NoWd g H v) (s : Same H H') : NoWd g H' v := ⟨h.1.same s, h.2⟩
theorem ty_no {K : PySem.W.Frag} {H : Hp} {v : V} (th : Thing H v) (hn : ∀ z, v ≠ .str z) : ∃ t, TyOf K H v t ∧ PySem.W.kitOne K t (.type "str") = some false := by
  cases th with
  | flat f =>
    cases v with
    | non => exact ⟨_, .non, rfl⟩
    | bl z => exact ⟨_, .bl z, rfl⟩
    | int z => exact ⟨_, .int z, rfl⟩
    | str z => exact absurd rfl (hn z)
    | flt z => exact ⟨_, .flt z, rfl⟩
    | ref z => cases f
    | ty z => cases f
    | _ => cases f
  | lst h f => exact ⟨_, .lst h, rfl⟩
  | tup h f => exact ⟨_, .tup h, rfl⟩
  | dic h => exact ⟨_, .dK h, rfl⟩
end Bs
namespace Sx
open PySem L2 Bs
def spAreT : Sp := fun vs H Q _ => ∃ v, vs = [v] ∧ ((∃ z, v = .str z ∧ Signs z ∧ ∀ H', Same H H' → Q (.bl true) H') ∨ (NoSg H v ∧ ∀ H', Same H H' → Q (.bl false) H'))
def spIsWT : Sp := fun vs H Q _ => ∃ (v : V) (g : Str), vs = [v, .str g] ∧ ((∃ z, v = .str z ∧ Word g z ∧ ∀ H', Same H H' → Q (.bl true) H') ∨ (NoWd g H v ∧ ∀ H', Same H H' → Q (.bl false) H'))
/-- an error with one number -/
def ErrN (C : Addr) (name : Str) (n : Int) (H : Hp) (E : XK) : Prop := ∀ (d : Addr) (H' : Hp), Same H H' → H d = none → H' d = some (.xd [(name, .int n)]) → E (.ref C) (some d) H'
def spCheckT (K : PySem.W.Frag) (CT CW : Addr) : Sp := fun vs H Q E => ∃ (a : Addr) (g : Str) (xs : List V), vs = [.ref a, .str g] ∧ SqL K H a xs ∧ xs.length ≤ 100 ∧ (∀ x ∈ xs, (∃ z, x = .str z ∧ Word g z) ∨ NoWd g H x) ∧
  ((6 < xs.length ∧ ErrN CT "many" xs.length H E) ∨ (xs.length ≤ 6 ∧ (∀ x ∈ xs, ∃ z, x = .str z ∧ Word g z) ∧ ∀ H', Same H H' → Q .non H') ∨
   (xs.length ≤ 6 ∧ ∃ i x, xs[i]? = some x ∧ NoWd g H x ∧ (∀ (j : Nat) y, j < i → xs[j]? = some y → ∃ z, y = .str z ∧ Word g z) ∧ ErrN CW "number" (i : Nat) H E))
end Sx
namespace Bs
open PySem L2 Sx
/-- what is new, and one thing more -/
def newX (H H' : Hp) (x : Addr) : Hp := fun a => if a = x then H' a else newIn H H' a
theorem newX_at {H H' : Hp} {x a : Addr} {o : HO} (h : H a = none) (e : H' a = some o) : newX H H' x a = some o := by
  unfold newX
  split
  · exact e
  · exact newIn_at h e
theorem newX_self {H H' : Hp} {x : Addr} {o : HO} (e : H' x = some o) : newX H H' x x = some o := by
  unfold newX
  rw [if_pos rfl]
  exact e
theorem newX_in {H0 H H' : Hp} {x : Addr} (s : Same H0 H) (hx : H0 x = none) : Same (newX H H' x) (newIn H0 H') := fun a o e => by
  unfold newX at e
  split at e
  · rename_i h
    subst h
    exact newIn_at hx e
  · exact newIn_old s _ _ e
theorem ErrN.same {C : Addr} {name : Str} {n : Int} {H H1 : Hp} {E : XK} (h : ErrN C name n H E) (s : Same H H1) : ErrN C name n H1 E := fun d H' s' hd e => h d H' (s.trans s') (none_of s hd) e
end Bs
namespace Sx
open PySem L2 Bs
def spInitT (K : PySem.W.Frag) (C CS CT CW : Addr) : Sp := fun vs H Q E =>
  (∃ (x dx : Addr) (g : Str) (a : Addr) (ws : List Str), vs = [.ref x, .str g, .ref a] ∧ H x = some (.ins C dx []) ∧ SqL K H a (ws.map V.str) ∧ Signs g ∧ ws.length ≤ 6 ∧ (∀ w ∈ ws, Word g w) ∧
    ∀ (ss ls : List Str) (H' : Hp), BandAt C (newX H H' x) x g ws ss ls → (∀ b o, H b = some o → b ≠ x → H' b = some o) → Q .non H') ∨
  (∃ (x a : Addr) (v : V), vs = [.ref x, v, .ref a] ∧ NoSg H v ∧ ∀ H', Same H H' → E (.ref CS) none H') ∨
  (∃ (x a : Addr) (g : Str) (xs : List V), vs = [.ref x, .str g, .ref a] ∧ Signs g ∧ SqL K H a xs ∧ xs.length ≤ 100 ∧ (∀ x ∈ xs, (∃ z, x = .str z ∧ Word g z) ∨ NoWd g H x) ∧
    ((6 < xs.length ∧ ErrN CT "many" xs.length H E) ∨ (xs.length ≤ 6 ∧ ∃ i x, xs[i]? = some x ∧ NoWd g H x ∧ (∀ (j : Nat) y, j < i → xs[j]? = some y → ∃ z, y = .str z ∧ Word g z) ∧ ErrN CW "number" (i : Nat) H E)))
/-- the greatest of the numbers, and of 0 -/
def IsTop (M : Int) (ns : List Int) : Prop := M ∈ (0 :: ns) ∧ ∀ a ∈ (0 :: ns), a ≤ M
def spLongest (C : Addr) : Sp := fun vs H Q _ => ∃ (x : Addr) (g : Str) (ws ss ls : List Str), vs = [.ref x] ∧ BandAt C H x g ws ss ls ∧ ws.length ≤ 1000 ∧ (∀ w ∈ ws, w.length ≤ 1000) ∧ ∀ (M : Int) (H' : Hp), Same H H' → IsTop M (ws.map fun w => (w.length : Int)) → Q (.int M) H'
end Sx

set_option Elab.async false
set_option linter.all false
set_option maxRecDepth 100000
set_option maxHeartbeats 4000000
namespace K1
open PySem L2 Bs Sx
def top (i : Nat) : Stmt := PySem.Challenge.pw_bandscribe_k01_bands_refused.main.body.getD i (.Pass ⟨0, 0, 0, 0⟩)
/-- names that the text leaves to Python -/
structure Txt (mg : Str → Option Value) : Prop where
  «ValueError» : mg "ValueError" = none
  «all» : mg "all" = none
  «any» : mg "any" = none
  «bool» : mg "bool" = none
  «enum» : mg "enumerate" = none
  «int» : mg "int" = none
  «isi» : mg "isinstance" = none
  «len» : mg "len" = none
  «list» : mg "list" = none
  «max» : mg "max" = none
  «min» : mg "min" = none
  «range» : mg "range" = none
  «set» : mg "set" = none
  «sorted» : mg "sorted" = none
  «str» : mg "str" = none
structure Cl_Band (K : PySem.W.Frag) (C : Addr) : Prop where
  cl : Cls K C
  n_signs : NoAttr K C "signs"
  n_barred : NoAttr K C "barred"
  n_moves : NoAttr K C "moves"
  n_lasting : NoAttr K C "lasting"
/-- what the top has written -/
structure Lk (K : PySem.W.Frag) (mg : Str → Option Value) where
  T : Txt mg
  f_all_among : Addr
  d_all_among : FuncData
  a_all_among : FnAt K mg "all_among" (top 21) ["text", "signs"] f_all_among d_all_among
  f_are_signs : Addr
  d_are_signs : FuncData
  a_are_signs : FnAt K mg "are_signs" (top 22) ["thing"] f_are_signs d_are_signs
  f_is_word : Addr
  d_is_word : FuncData
  a_is_word : FnAt K mg "is_word" (top 23) ["thing", "signs"] f_is_word d_is_word
  f_check_barred : Addr
  d_check_barred : FuncData
  a_check_barred : FnAt K mg "check_barred" (top 24) ["barred", "signs"] f_check_barred d_check_barred
  f_bears_barred : Addr
  d_bears_barred : FuncData
  a_bears_barred : FnAt K mg "bears_barred" (top 25) ["row", "barred"] f_bears_barred d_bears_barred
  f_sorted_places : Addr
  d_sorted_places : FuncData
  a_sorted_places : FnAt K mg "sorted_places" (top 26) ["barred"] f_sorted_places d_sorted_places
  f_longest_end : Addr
  d_longest_end : FuncData
  a_longest_end : FnAt K mg "longest_end" (top 27) ["row", "places"] f_longest_end d_longest_end
  f_moves_from : Addr
  d_moves_from : FuncData
  a_moves_from : FnAt K mg "moves_from" (top 28) ["place", "signs", "barred", "places"] f_moves_from d_moves_from
  f_leads_into : Addr
  d_leads_into : FuncData
  a_leads_into : FnAt K mg "leads_into" (top 29) ["ends", "lot"] f_leads_into d_leads_into
  f_live_among : Addr
  d_live_among : FuncData
  a_live_among : FnAt K mg "live_among" (top 30) ["moves"] f_live_among d_live_among
  f_Band___init__ : Addr
  d_Band___init__ : FuncData
  f_Band_places : Addr
  d_Band_places : FuncData
  f_Band_longest : Addr
  d_Band_longest : FuncData
  f__law_cell : Addr
  d__law_cell : FuncData
  a__law_cell : FnAt K mg "_law_cell" (top 33) ["_law_script", "_law_place"] f__law_cell d__law_cell
  f__law_draw : Addr
  d__law_draw : FuncData
  a__law_draw : FnAt K mg "_law_draw" (top 34) ["_law_cell_here", "_law_turn", "_law_many"] f__law_draw d__law_draw
  f__law_signs : Addr
  d__law_signs : FuncData
  a__law_signs : FnAt K mg "_law_signs" (top 35) ["_law_cell_here"] f__law_signs d__law_signs
  f__law_word : Addr
  d__law_word : FuncData
  a__law_word : FnAt K mg "_law_word" (top 36) ["_law_cell_here", "_law_signs_here"] f__law_word d__law_word
  f__law_words : Addr
  d__law_words : FuncData
  a__law_words : FnAt K mg "_law_words" (top 37) ["_law_script", "_law_at", "_law_signs_here", "_law_most"] f__law_words d__law_words
  f__law_odd_signs : Addr
  d__law_odd_signs : FuncData
  a__law_odd_signs : FnAt K mg "_law_odd_signs" (top 38) ["_law_cell_here", "_law_signs_here"] f__law_odd_signs d__law_odd_signs
  f__law_odd_word : Addr
  d__law_odd_word : FuncData
  a__law_odd_word : FnAt K mg "_law_odd_word" (top 39) ["_law_cell_here", "_law_signs_here"] f__law_odd_word d__law_odd_word
  f__law_others : Addr
  d__law_others : FuncData
  a__law_others : FnAt K mg "_law_others" (top 40) ["_law_e"] f__law_others d__law_others
  f__law_told : Addr
  d__law_told : FuncData
  a__law_told : FnAt K mg "_law_told" (top 41) ["_law_signs_here", "_law_words_here"] f__law_told d__law_told
  f__law_good : Addr
  d__law_good : FuncData
  a__law_good : FnAt K mg "_law_good" (top 42) ["_law_band", "_law_signs_here", "_law_words_here"] f__law_good d__law_good
  f__law_due : Addr
  d__law_due : FuncData
  a__law_due : FnAt K mg "_law_due" (top 43) ["_law_signs_right", "_law_words_here", "_law_odd"] f__law_due d__law_due
  c_Band : Addr
  g_Band : mg "Band" = some (.ref c_Band)
  cl_Band : Cl_Band K c_Band
  mk_Band : Mk K c_Band f_Band___init__
  m_Band___init__ : MthAt K c_Band "__init__" "Band.__init__" (inClass (top 31) 0) ["self", "signs", "barred"] f_Band___init__ d_Band___init__
  m_Band_places : MthAt K c_Band "places" "Band.places" (inClass (top 31) 5) ["self"] f_Band_places d_Band_places
  m_Band_longest : MthAt K c_Band "longest" "Band.longest" (inClass (top 31) 9) ["self"] f_Band_longest d_Band_longest
  c_BandError : Addr
  g_BandError : mg "BandError" = some (.ref c_BandError)
  XT : XTop K c_BandError "BandError"
  XB : XBase K c_BandError
  c_NoSigns : Addr
  g_NoSigns : mg "NoSigns" = some (.ref c_NoSigns)
  U_NoSigns : XUnder K c_NoSigns c_BandError "NoSigns"
  Y_NoSigns : XIsi K c_NoSigns
  hi_NoSigns : PySem.W.findIn K (.ref c_NoSigns) "__init__" = some (some (.builtin "ValueError.__init__"))
  c_TooMany : Addr
  g_TooMany : mg "TooMany" = some (.ref c_TooMany)
  U_TooMany : XUnder K c_TooMany c_BandError "TooMany"
  Y_TooMany : XIsi K c_TooMany
  f_TooMany___init__ : Addr
  d_TooMany___init__ : FuncData
  F_TooMany : Fun K "__init__" "TooMany.__init__" (inClass (top 4) 0) f_TooMany___init__ d_TooMany___init__
  b_TooMany : Binds K d_TooMany___init__ ["self", "many"] []
  hi_TooMany : PySem.W.findIn K (.ref c_TooMany) "__init__" = some (some (.ref f_TooMany___init__))
  hf_TooMany : PySem.W.isFn K (.ref f_TooMany___init__) = true
  n_TooMany_many : PySem.W.findIn K (.ref c_TooMany) "many" = some none
  c_NoWord : Addr
  g_NoWord : mg "NoWord" = some (.ref c_NoWord)
  U_NoWord : XUnder K c_NoWord c_BandError "NoWord"
  Y_NoWord : XIsi K c_NoWord
  f_NoWord___init__ : Addr
  d_NoWord___init__ : FuncData
  F_NoWord : Fun K "__init__" "NoWord.__init__" (inClass (top 5) 0) f_NoWord___init__ d_NoWord___init__
  b_NoWord : Binds K d_NoWord___init__ ["self", "number"] []
  hi_NoWord : PySem.W.findIn K (.ref c_NoWord) "__init__" = some (some (.ref f_NoWord___init__))
  hf_NoWord : PySem.W.isFn K (.ref f_NoWord___init__) = true
  n_NoWord_number : PySem.W.findIn K (.ref c_NoWord) "number" = some none
  c_NoRow : Addr
  g_NoRow : mg "NoRow" = some (.ref c_NoRow)
  V_NoRow : XRaw K c_NoRow c_BandError "NoRow"
  c_Barred : Addr
  g_Barred : mg "Barred" = some (.ref c_Barred)
  V_Barred : XRaw K c_Barred c_BandError "Barred"
  c_NoPlace : Addr
  g_NoPlace : mg "NoPlace" = some (.ref c_NoPlace)
  V_NoPlace : XRaw K c_NoPlace c_BandError "NoPlace"
  c_NoNumber : Addr
  g_NoNumber : mg "NoNumber" = some (.ref c_NoNumber)
  V_NoNumber : XRaw K c_NoNumber c_BandError "NoNumber"
  c_NoRate : Addr
  g_NoRate : mg "NoRate" = some (.ref c_NoRate)
  V_NoRate : XRaw K c_NoRate c_BandError "NoRate"
  c_NoSplit : Addr
  g_NoSplit : mg "NoSplit" = some (.ref c_NoSplit)
  V_NoSplit : XRaw K c_NoSplit c_BandError "NoSplit"
  c_NoLength : Addr
  g_NoLength : mg "NoLength" = some (.ref c_NoLength)
  V_NoLength : XRaw K c_NoLength c_BandError "NoLength"
  c_Scarce : Addr
  g_Scarce : mg "Scarce" = some (.ref c_Scarce)
  V_Scarce : XRaw K c_Scarce c_BandError "Scarce"
  c_Open : Addr
  g_Open : mg "Open" = some (.ref c_Open)
  V_Open : XRaw K c_Open c_BandError "Open"
  c_NoData : Addr
  g_NoData : mg "NoData" = some (.ref c_NoData)
  V_NoData : XRaw K c_NoData c_BandError "NoData"
  c_NoForm : Addr
  g_NoForm : mg "NoForm" = some (.ref c_NoForm)
  V_NoForm : XRaw K c_NoForm c_BandError "NoForm"
  c_NoBand : Addr
  g_NoBand : mg "NoBand" = some (.ref c_NoBand)
  V_NoBand : XRaw K c_NoBand c_BandError "NoBand"
  c_NoWriter : Addr
  g_NoWriter : mg "NoWriter" = some (.ref c_NoWriter)
  V_NoWriter : XRaw K c_NoWriter c_BandError "NoWriter"
  known : ∃ t, mg "KNOWN_SIGNS" = some (.str poolS t)
end K1

set_option Elab.async false
set_option linter.all false
set_option maxRecDepth 100000
set_option maxHeartbeats 4000000
namespace K1
open PySem L2 Bs Sx
section
variable {P : Program} {w : World} {K : PySem.W.Frag} {mg : Str → Option Value} {base : Heap}
theorem sc_all_among : FnScope ["text", "signs"] ["text", "signs"] (defScope (top 21)) := ⟨rfl, rfl, rfl, by decide +kernel, rfl, by decide +kernel, by decide +kernel⟩
theorem ok_all_among (L : Lk K mg) : FnOk P w K mg base CX0 1 L.f_all_among L.d_all_among ["text", "signs"] spAmong := by
  have T := L.T
  refine L.a_all_among.F.ok sc_all_among (fun vs H Q E h => ?_) (fun cdv A outer s H vs Q E hr h => ?_)
  · obtain ⟨a, b, rfl, _⟩ := h
    rfl
  · obtain ⟨a, b, rfl, hl, k⟩ := h
    refine ⟨_, (pss_one (ps_ret (pe_callB (call_all rfl) (by rfl) T.all bAll (pa_cons (pe_comp rfl (blockOk_of (sc := defScope (top 21)) (N := ["text", "signs"]) (ys := ["signs"]) (ix := [1]) rfl rfl (by decide +kernel)) (pi_str (pv 0)) (fun _ _ _ _ _ _ => pts_nil) (fun _ _ _ _ _ _ => (pe_cmpR op_in_str (pv 0) (pv 1) rfl))) pa_nil)))), ?_⟩
    refine ⟨_, rfl, a, rfl, fun l hl' => comp_map (gIn b) (itIs_str a) hl' (by unfold charsV; rw [List.length_map]; exact small16 (Nat.le_trans (Nat.le_of_eq (len_ch a)) (by omega))) (fun _ _ => trivial) (fun x H3 Q' hx _ q => ?_) (fun H' s' hl2 => ?_)⟩
    · obtain ⟨c, _, rfl⟩ := List.mem_map.mp hx
      exact ⟨_, rfl, _, rfl, _, _, rfl, rfl, q H3 (Same.refl _)⟩
    · rw [gIn_chars] at hl2
      refine ⟨l, _, rfl, SqL.of hl2, ?_⟩
      have := k H' s'
      rw [List.all_map]
      exact this
theorem sc_bears_barred : FnScope ["row", "barred"] ["row", "barred"] (defScope (top 25)) := ⟨rfl, rfl, rfl, by decide +kernel, rfl, by decide +kernel, by decide +kernel⟩
theorem ok_bears_barred (L : Lk K mg) : FnOk P w K mg base CX0 1 L.f_bears_barred L.d_bears_barred ["row", "barred"] (spBears K) := by
  have T := L.T
  refine L.a_bears_barred.F.ok sc_bears_barred (fun vs H Q E h => ?_) (fun cdv A outer s H vs Q E hr h => ?_)
  · obtain ⟨r, a, ws, rfl, _⟩ := h
    rfl
  · obtain ⟨r, a, ws, rfl, hS, hl, k⟩ := h
    refine ⟨_, (pss_one (ps_ret (pe_callB (call_any rfl) (by rfl) T.any bAny (pa_cons (pe_comp rfl (blockOk_of (sc := defScope (top 25)) (N := ["row", "barred"]) (ys := ["row"]) (ix := [0]) rfl rfl (by decide +kernel)) (pi_list (pv 1)) (fun _ _ _ _ _ _ => pts_nil) (fun _ _ _ _ _ _ => (pe_cmpR op_in_str (pv 0) (pv 1) rfl))) pa_nil)))), ?_⟩
    refine ⟨_, rfl, a, rfl, ⟨_, hS⟩, fun l hl' => comp_map (gIn r) (itIs_list K a (ws.map V.str)) hl' (by rw [List.length_map]; exact small16 (by omega)) (fun H' s' => s'.seq hS) (fun x H3 Q' hx _ q => ?_) (fun H' s' hl2 => ?_)⟩
    · obtain ⟨c, _, rfl⟩ := List.mem_map.mp hx
      exact ⟨_, rfl, _, rfl, _, _, rfl, rfl, q H3 (Same.refl _)⟩
    · rw [gIn_strs] at hl2
      refine ⟨l, _, rfl, SqL.of hl2, ?_⟩
      have := k H' s'
      rw [List.any_map]
      exact this
end
end K1

set_option Elab.async false
set_option linter.all false
set_option maxRecDepth 100000
set_option maxHeartbeats 4000000
namespace K1
open PySem L2 Bs Sx
section
variable {P : Program} {w : World} {K : PySem.W.Frag} {mg : Str → Option Value} {base : Heap}
theorem sc_TooMany___init__ : FnScope ["self", "many"] ["self", "many"] (defScope (inClass (top 4) 0)) := ⟨rfl, rfl, rfl, by decide +kernel, rfl, by decide +kernel, by decide +kernel⟩
theorem ok_TooMany___init__ (L : Lk K mg) : FnOk P w K mg base CX0 1 L.f_TooMany___init__ L.d_TooMany___init__ ["self", "many"] (spX1 L.c_TooMany "many" okNum) := by
  have T := L.T
  refine L.F_TooMany.ok sc_TooMany___init__ (fun vs H Q E h => ?_) (fun cdv A outer s H vs Q E hr h => ?_)
  · obtain ⟨x, v, rfl, _⟩ := h
    rfl
  · obtain ⟨x, v, rfl, ⟨i, rfl, hi⟩, hx, k⟩ := h
    refine ⟨_, (pss_cons (ps_expr (pe_binit rfl L.g_BandError L.XB (pa_cons (pv 0) (pa_cons (pe_fstr (pj_int (pv 1) (pj_lit pj_nil))) pa_nil))))
        (pss_one (ps_xfld (CB := L.c_BandError) (pv 0) (pv 1) rfl))), ?_⟩
    obtain ⟨h1, h2⟩ := intText i hi
    refine ⟨_, rfl, _, rfl, .inl ⟨i, rfl, h1, small16 ?_, small16 ?_, small16 ?_, x, L.c_TooMany, _, _, rfl, hx, L.U_TooMany, ?_⟩⟩
    · rw [len_app]; exact Nat.le_trans (Nat.add_le_add (show _ ≤ 1000 by decide +kernel) h2) (by decide)
    · rw [len_app, len_app]; exact Nat.le_trans (Nat.add_le_add (Nat.add_le_add (show _ ≤ 1000 by decide +kernel) h2) (show _ ≤ 1000 by decide +kernel)) (by decide)
    · rw [len_app, len_app]; exact Nat.le_trans (Nat.add_le_add (Nat.add_le_add (show _ ≤ 1000 by decide +kernel) h2) (show _ ≤ 1000 by decide +kernel)) (by decide)
    exact ⟨_, rfl, _, rfl, x, L.c_TooMany, _, rfl, hx, L.U_TooMany, L.n_TooMany_many, fun d hd => k d hd⟩
theorem sc_NoWord___init__ : FnScope ["self", "number"] ["self", "number"] (defScope (inClass (top 5) 0)) := ⟨rfl, rfl, rfl, by decide +kernel, rfl, by decide +kernel, by decide +kernel⟩
theorem ok_NoWord___init__ (L : Lk K mg) : FnOk P w K mg base CX0 1 L.f_NoWord___init__ L.d_NoWord___init__ ["self", "number"] (spX1 L.c_NoWord "number" okNum) := by
  have T := L.T
  refine L.F_NoWord.ok sc_NoWord___init__ (fun vs H Q E h => ?_) (fun cdv A outer s H vs Q E hr h => ?_)
  · obtain ⟨x, v, rfl, _⟩ := h
    rfl
  · obtain ⟨x, v, rfl, ⟨i, rfl, hi⟩, hx, k⟩ := h
    refine ⟨_, (pss_cons (ps_expr (pe_binit rfl L.g_BandError L.XB (pa_cons (pv 0) (pa_cons (pe_fstr (pj_lit (pj_int (pv 1) (pj_lit pj_nil)))) pa_nil))))
        (pss_one (ps_xfld (CB := L.c_BandError) (pv 0) (pv 1) rfl))), ?_⟩
    obtain ⟨h1, h2⟩ := intText i hi
    refine ⟨_, rfl, small16 (by decide +kernel), _, rfl, .inl ⟨i, rfl, h1, small16 ?_, small16 ?_, small16 ?_, x, L.c_NoWord, _, _, rfl, hx, L.U_NoWord, ?_⟩⟩
    · rw [len_app]; exact Nat.le_trans (Nat.add_le_add (show _ ≤ 1000 by decide +kernel) h2) (by decide)
    · rw [len_app, len_app]; exact Nat.le_trans (Nat.add_le_add (Nat.add_le_add (show _ ≤ 1000 by decide +kernel) h2) (show _ ≤ 1000 by decide +kernel)) (by decide)
    · rw [len_app, len_app]; exact Nat.le_trans (Nat.add_le_add (Nat.add_le_add (show _ ≤ 1000 by decide +kernel) h2) (show _ ≤ 1000 by decide +kernel)) (by decide)
    exact ⟨_, rfl, _, rfl, x, L.c_NoWord, _, rfl, hx, L.U_NoWord, L.n_NoWord_number, fun d hd => k d hd⟩
theorem sc_are_signs : FnScope ["thing"] ["thing"] (defScope (top 22)) := ⟨rfl, rfl, rfl, by decide +kernel, rfl, by decide +kernel, by decide +kernel⟩
theorem ok_are_signs (L : Lk K mg) : FnOk P w K mg base CX0 2 L.f_are_signs L.d_are_signs ["thing"] spAreT := by
  have T := L.T
  refine L.a_are_signs.F.ok sc_are_signs (fun vs H Q E h => ?_) (fun cdv A outer s H vs Q E hr h => ?_)
  · obtain ⟨v, rfl, _⟩ := h
    rfl
  · obtain ⟨v, rfl, h⟩ := h
    obtain ⟨tk, hkn⟩ := L.known
    refine ⟨_, (pss_cons (ps_if (PW.pt (pw_or (pt_not (pt_val (pe_callB call_isinst (by rfl) T.isi bIsi (pa_cons (pv 0) (pa_cons (pe_bltn (v := .ty "str") (by rfl) T.str bStr rfl) pa_nil))))) (pw_or (pt_cmpR op_lt (pe_callB call_len_str (by rfl) T.len PySem.boot_len (pa_cons (pv 0) pa_nil)) pe_int (nomark _)) (pw_or1 (pt_cmpR op_gt (pe_callB call_len_str (by rfl) T.len PySem.boot_len (pa_cons (pv 0) pa_nil)) pe_int (nomark _)))))) (pss_one (ps_ret pe_bl)) pss_nil)
        (pss_one (ps_ret (pe_and (pe_cmpR op_eq (pe_callB call_lenSet (by rfl) T.len PySem.boot_len (pa_cons (pe_callTy (call_setStr rfl) (by rfl) T.set bSet (pa_cons (pv 0) pa_nil)) pa_nil)) (pe_callB call_len_str (by rfl) T.len PySem.boot_len (pa_cons (pv 0) pa_nil)) (nomark _)) (pe_one (pe_call (ok_all_among L) (hr.mono (by decide)) rfl L.a_all_among.g L.a_all_among.F.kp L.a_all_among.b .nil pass0 (pa_cons (pv 0) (pa_cons (pe_glob (v := .str poolS) (by rfl) hkn ⟨tk, rfl⟩) pa_nil)))))))), ?_⟩
    rcases h with ⟨x, rfl, S, k⟩ | ⟨N, k⟩
    · have hx1 : x.length ≤ sizeLine := small16 (by have := S.hi; omega)
      refine ⟨_, rfl, _, _, _, true, rfl, TyOf.str x, rfl, true, rfl, iteF ?_⟩
      refine ⟨_, rfl, x, rfl, hx1, _, _, rfl, rfl, _, rfl, ?_⟩
      refine iteN (by have := S.lo; simp; omega) ?_
      refine ⟨_, rfl, x, rfl, hx1, _, _, rfl, rfl, _, rfl, ?_⟩
      refine iteN (by have := S.hi; simp; omega) ?_
      refine ⟨_, rfl, x, rfl, ?_, fun p hp => ?_⟩
      · have := S.hi
        show x.length + 1 < scanBound
        unfold scanBound
        omega
      refine ⟨p, _, rfl, upd_same, _, rfl, x, rfl, hx1, rfl, ?_⟩
      refine ⟨_, rfl, ?_⟩
      refine iteY (by rw [firstD_size S.nd]; simp) ?_
      refine ⟨_, rfl, x, poolS, rfl, by have := S.hi; omega, fun H' s' => ?_⟩
      have e : ((ch x).all fun c => decide (c ∈ ch poolS)) = true := List.all_eq_true.mpr fun c hc => decide_eq_true (S.sub c hc)
      rw [e]
      exact k H' ((Same.upd hp).trans s')
    · by_cases hv : ∃ x, v = .str x
      rotate_left
      · obtain ⟨t, ht, hk⟩ := ty_no (K := K) N.1 fun z e => hv ⟨z, e⟩
        exact ⟨_, rfl, _, _, _, false, rfl, ht, hk, false, rfl, iteT (k H (Same.refl _))⟩
      obtain ⟨x, rfl⟩ := hv
      obtain ⟨nx, hx100⟩ := N.2 x rfl
      have hx1 : x.length ≤ sizeLine := small16 (by omega)
      refine ⟨_, rfl, _, _, _, true, rfl, TyOf.str x, rfl, true, rfl, iteF ?_⟩
      by_cases h2 : x.length < 2
      · exact ⟨_, rfl, x, rfl, hx1, _, _, rfl, rfl, true, congrArg V.bl (decide_eq_true (by omega)), iteT (k H (Same.refl _))⟩
      refine ⟨_, rfl, x, rfl, hx1, _, _, rfl, rfl, false, congrArg V.bl (decide_eq_false (by omega)), iteF ?_⟩
      by_cases h4 : 4 < x.length
      · exact ⟨_, rfl, x, rfl, hx1, _, _, rfl, rfl, true, congrArg V.bl (decide_eq_true (by omega)), iteT (k H (Same.refl _))⟩
      refine ⟨_, rfl, x, rfl, hx1, _, _, rfl, rfl, false, congrArg V.bl (decide_eq_false (by omega)), iteF ?_⟩
      refine ⟨_, rfl, x, rfl, ?_, fun p hp => ?_⟩
      · show x.length + 1 < scanBound
        unfold scanBound
        omega
      refine ⟨p, _, rfl, upd_same, _, rfl, x, rfl, hx1, rfl, ?_⟩
      by_cases hd : (firstD (signAt x) x.cps.size).length = x.length
      rotate_left
      · exact ⟨false, congrArg V.bl (decide_eq_false fun z => hd (by have := V.int.inj z; omega)), iteF (k _ (Same.upd hp))⟩
      refine ⟨true, congrArg V.bl (decide_eq_true (by rw [hd])), iteT ?_⟩
      refine ⟨_, rfl, x, poolS, rfl, by omega, fun H' s' => ?_⟩
      have e : ((ch x).all fun c => decide (c ∈ ch poolS)) = false := by
        rcases nx with q | q | ⟨c, hc, hn⟩ | ⟨i, j, hij, hj, e⟩
        · exact absurd q h2
        · exact absurd q h4
        · cases ea : ((ch x).all fun c => decide (c ∈ ch poolS)) with
          | false => rfl
          | true => exact absurd (of_decide_eq_true (List.all_eq_true.mp ea c hc)) hn
        · have := firstD_dup (signAt x) hij e x.cps.size hj
          exact absurd hd (by show ¬ _ = x.cps.size; omega)
      rw [e]
      exact k H' ((Same.upd hp).trans s')
theorem sc_is_word : FnScope ["thing", "signs"] ["thing", "signs"] (defScope (top 23)) := ⟨rfl, rfl, rfl, by decide +kernel, rfl, by decide +kernel, by decide +kernel⟩
theorem ok_is_word (L : Lk K mg) : FnOk P w K mg base CX0 2 L.f_is_word L.d_is_word ["thing", "signs"] spIsWT := by
  have T := L.T
  refine L.a_is_word.F.ok sc_is_word (fun vs H Q E h => ?_) (fun cdv A outer s H vs Q E hr h => ?_)
  · obtain ⟨v, g, rfl, _⟩ := h
    rfl
  · obtain ⟨v, g, rfl, h⟩ := h
    refine ⟨_, (pss_cons (ps_if (PW.pt (pw_or (pt_not (pt_val (pe_callB call_isinst (by rfl) T.isi bIsi (pa_cons (pv 0) (pa_cons (pe_bltn (v := .ty "str") (by rfl) T.str bStr rfl) pa_nil))))) (pw_or (pt_cmpR op_lt (pe_callB call_len_str (by rfl) T.len PySem.boot_len (pa_cons (pv 0) pa_nil)) pe_int (nomark _)) (pw_or1 (pt_cmpR op_gt (pe_callB call_len_str (by rfl) T.len PySem.boot_len (pa_cons (pv 0) pa_nil)) pe_int (nomark _)))))) (pss_one (ps_ret pe_bl)) pss_nil)
        (pss_one (ps_ret (pe_call (ok_all_among L) (hr.mono (by decide)) rfl L.a_all_among.g L.a_all_among.F.kp L.a_all_among.b .nil pass0 (pa_cons (pv 0) (pa_cons (pv 1) pa_nil)))))), ?_⟩
    rcases h with ⟨x, rfl, S, k⟩ | ⟨N, k⟩
    · have hx1 : x.length ≤ sizeLine := small16 (by have := S.hi; omega)
      refine ⟨_, rfl, _, _, _, true, rfl, TyOf.str x, rfl, true, rfl, ?_⟩
      refine iteF ?_
      refine ⟨_, rfl, x, rfl, hx1, _, _, rfl, rfl, _, rfl, ?_⟩
      refine iteN (by have := S.lo; simp; omega) ?_
      refine ⟨_, rfl, x, rfl, hx1, _, _, rfl, rfl, _, rfl, ?_⟩
      refine iteN (by have := S.hi; simp; omega) ?_
      refine ⟨_, rfl, _, rfl, x, g, rfl, by have := S.hi; omega, fun H' s' => ?_⟩
      have e : ((ch x).all fun c => decide (c ∈ ch g)) = true := List.all_eq_true.mpr fun c hc => decide_eq_true (S.sub c hc)
      rw [e]
      exact k H' s'
    · by_cases hv : ∃ x, v = .str x
      rotate_left
      · obtain ⟨t, ht, hk⟩ := ty_no (K := K) N.1 fun z e => hv ⟨z, e⟩
        exact ⟨_, rfl, _, _, _, false, rfl, ht, hk, false, rfl, iteT (k H (Same.refl _))⟩
      obtain ⟨x, rfl⟩ := hv
      obtain ⟨nx, hx100⟩ := N.2 x rfl
      have hx1 : x.length ≤ sizeLine := small16 (by omega)
      refine ⟨_, rfl, _, _, _, true, rfl, TyOf.str x, rfl, true, rfl, iteF ?_⟩
      by_cases h2 : x.length < 1
      · exact ⟨_, rfl, x, rfl, hx1, _, _, rfl, rfl, true, congrArg V.bl (decide_eq_true (by omega)), iteT (k H (Same.refl _))⟩
      refine ⟨_, rfl, x, rfl, hx1, _, _, rfl, rfl, false, congrArg V.bl (decide_eq_false (by omega)), iteF ?_⟩
      by_cases h4 : 5 < x.length
      · exact ⟨_, rfl, x, rfl, hx1, _, _, rfl, rfl, true, congrArg V.bl (decide_eq_true (by omega)), iteT (k H (Same.refl _))⟩
      refine ⟨_, rfl, x, rfl, hx1, _, _, rfl, rfl, false, congrArg V.bl (decide_eq_false (by omega)), iteF ?_⟩
      refine ⟨_, rfl, _, rfl, x, g, rfl, by omega, fun H' s' => ?_⟩
      have e : ((ch x).all fun c => decide (c ∈ ch g)) = false := by
        rcases nx with q | q | ⟨c, hc, hn⟩
        · exact absurd q h2
        · exact absurd q h4
        · cases ea : ((ch x).all fun c => decide (c ∈ ch g)) with
          | false => rfl
          | true => exact absurd (of_decide_eq_true (List.all_eq_true.mp ea c hc)) hn
      rw [e]
      exact k H' s'
theorem sc_check_barred : FnScope ["barred", "signs", "number", "thing"] ["barred", "signs"] (defScope (top 24)) := ⟨rfl, rfl, rfl, by decide +kernel, rfl, by decide +kernel, by decide +kernel⟩
theorem ok_check_barred (L : Lk K mg) : FnOk P w K mg base (CXe P w) 3 L.f_check_barred L.d_check_barred ["barred", "signs"] (spCheckT K L.c_TooMany L.c_NoWord) := by
  have T := L.T
  refine L.a_check_barred.F.okE sc_check_barred (fun vs H Q E h => ?_) (fun cdv A outer s H vs Q E hr h => ?_)
  · obtain ⟨a, g, xs, rfl, _⟩ := h
    rfl
  · obtain ⟨a, g, xs, rfl, hS, hl, hw, k⟩ := h
    refine ⟨_, (pss_cons (ps_if (pt_cmpR op_gt (pe_callB call_len_seq (by rfl) T.len PySem.boot_len (pa_cons (pv 0) pa_nil)) pe_int (nomark _)) (pss_one (ps_raise takes_fn rfl L.U_TooMany L.hi_TooMany L.hf_TooMany (ok_TooMany___init__ L) (hr.mono (by decide)) L.b_TooMany rfl L.g_TooMany (pa_cons (pe_callB call_len_seq (by rfl) T.len PySem.boot_len (pa_cons (pv 0) pa_nil)) pa_nil))) pss_nil)
        (pss_one (ps_for PassesOwn.leaving rfl (pi_enum (by rfl) T.enum (pa_cons (pv 0) pa_nil)) (pg_tup rfl (pgs_cons (pg_name (i := 2) sc_check_barred.nd rfl (Or.inl rfl)) (pgs_cons (pg_name (i := 3) sc_check_barred.nd rfl (Or.inl rfl)) pgs_nil))) (pss_one (ps_if (pt_not (pt_val (pe_call (ok_is_word L) (hr.mono (by decide)) rfl L.a_is_word.g L.a_is_word.F.kp L.a_is_word.b .nil pass0 (pa_cons (pv 3) (pa_cons (pv 1) pa_nil))))) (pss_one (ps_raise takes_fn rfl L.U_NoWord L.hi_NoWord L.hf_NoWord (ok_NoWord___init__ L) (hr.mono (by decide)) L.b_NoWord rfl L.g_NoWord (pa_cons (pv 2) pa_nil))) pss_nil))))), ?_⟩
    rcases k with ⟨h6, k⟩ | k
    · refine ⟨_, rfl, a, _, rfl, .inl hS, _, _, rfl, rfl, true, congrArg V.bl (decide_eq_true (by omega)), iteT ?_⟩
      refine ⟨_, rfl, a, _, rfl, .inl hS, by show 1 ≤ sizeLine; decide, fun e he => ⟨e, .int xs.length, rfl, ⟨_, rfl, by omega⟩, upd_same, fun dd hd => ⟨rfl, .inr ⟨dd, upd_same, ?_⟩⟩⟩⟩
      obtain ⟨r1, r2, r3⟩ := raise_heap (o2 := .xd [("many", .int xs.length)]) (o3 := XD e L.c_TooMany dd) he hd
      rw [r3]
      exact k dd _ (Same.upd r2) r2 upd_same
    have h6 : xs.length ≤ 6 := by rcases k with ⟨h, _⟩ | ⟨h, _⟩ <;> exact h
    refine ⟨_, rfl, a, _, rfl, .inl hS, _, _, rfl, rfl, false, congrArg V.bl (decide_eq_false (by omega)), iteF ?_⟩
    rcases k with ⟨_, hall, k⟩ | ⟨_, i0, x0, hx0, hn0, hbef, k⟩
    · refine ⟨_, rfl, a, _, rfl, hS, for_enum (K := K) (a := a) (xs := xs) (fun i σ H2 => Same H H2 ∧ ∃ v2 v3, σ = [some (.ref a), some (.str g), v2, v3]) ⟨Same.refl _, none, none, rfl⟩ (fun i σ H2 _ p => p.1.seq hS) ?_ (fun σ H2 p => k H2 p.1)⟩
      rintro i x σ H2 T hx ⟨s2, v2, v3, rfl⟩ hT
      obtain ⟨t, rfl, hm⟩ := hall x (List.mem_of_getElem? hx)
      refine ⟨T, _, rfl, SqT.of upd_same, rfl, _, _, rfl, _, _, rfl, rfl, ?_⟩
      refine ⟨_, rfl, _, rfl, .str t, g, rfl, .inl ⟨t, rfl, hm, fun H' s' => ⟨true, rfl, iteF ?_⟩⟩⟩
      exact ⟨(s2.trans (Same.upd hT)).trans s', _, _, rfl⟩
    · refine ⟨_, rfl, a, _, rfl, hS, for_enum (K := K) (a := a) (xs := xs) (fun i σ H2 => i ≤ i0 ∧ Same H H2 ∧ ∃ v2 v3, σ = [some (.ref a), some (.str g), v2, v3]) ⟨Nat.zero_le _, Same.refl _, none, none, rfl⟩ (fun i σ H2 _ p => p.2.1.seq hS) ?_ (fun σ H2 p => ?_)⟩
      · rintro i x σ H2 T hx ⟨hi, s2, v2, v3, rfl⟩ hT
        refine ⟨T, _, rfl, SqT.of upd_same, rfl, _, _, rfl, _, _, rfl, rfl, ?_⟩
        have s3 := s2.trans (Same.upd (o := .tup [.int (i : Nat), x]) hT)
        by_cases e : i = i0
        · subst e
          rw [hx0] at hx
          cases hx
          refine ⟨_, rfl, _, rfl, x0, g, rfl, .inr ⟨hn0.same s3, fun H' s' => ⟨false, rfl, iteT ?_⟩⟩⟩
          have s4 := s3.trans s'
          refine ⟨_, rfl, by show 1 ≤ sizeLine; decide, fun e he => ⟨e, .int (i : Nat), rfl, ⟨_, rfl, by have := (List.getElem?_eq_some_iff.mp hx0).1; omega⟩, upd_same, fun dd hd => ⟨rfl, .inr ⟨dd, upd_same, ?_⟩⟩⟩⟩
          obtain ⟨r1, r2, r3⟩ := raise_heap (o2 := .xd [("number", .int (i : Nat))]) (o3 := XD e L.c_NoWord dd) he hd
          rw [r3]
          exact k dd _ (s4.trans (Same.upd r2)) (none_of s4 r2) upd_same
        · obtain ⟨t, rfl, hm⟩ := hbef i x (by omega) hx
          refine ⟨_, rfl, _, rfl, .str t, g, rfl, .inl ⟨t, rfl, hm, fun H' s' => ⟨true, rfl, iteF ?_⟩⟩⟩
          exact ⟨by omega, s3.trans s', _, _, rfl⟩
      · have := (List.getElem?_eq_some_iff.mp hx0).1
        have := p.1
        omega
end
end K1

set_option Elab.async false
set_option linter.all false
set_option maxRecDepth 100000
set_option maxHeartbeats 4000000
namespace K1
open PySem L2 Bs Sx
section
variable {P : Program} {w : World} {K : PySem.W.Frag} {mg : Str → Option Value} {base : Heap}
theorem sc_sorted_places : FnScope ["barred", "found", "word", "length", "beginning"] ["barred"] (defScope (top 26)) := ⟨rfl, rfl, rfl, by decide +kernel, rfl, by decide +kernel, by decide +kernel⟩
theorem ok_sorted_places (L : Lk K mg) : FnOk P w K mg base CX0 2 L.f_sorted_places L.d_sorted_places ["barred"] (spSorted K) := by
  have T := L.T
  refine L.a_sorted_places.F.ok sc_sorted_places (fun vs H Q E h => ?_) (fun cdv A outer s H vs Q E hr h => ?_)
  · obtain ⟨a, ws, rfl, _⟩ := h
    rfl
  · obtain ⟨a, ws, rfl, hS, hl, hw, k⟩ := h
    have hu := hu_of hr
    refine ⟨_, (pss_cons (ps_set (i := 1) sc_sorted_places.nd rfl (Or.inl rfl) (pe_disp (pps_cons pe_str pe_bl pps_nil) rfl rfl (by simp) (by decide)))
        (pss_cons (ps_for PassesOwn.never rfl (pi_list (pv 0)) (pg_name (i := 2) sc_sorted_places.nd rfl (Or.inl rfl)) (pss_one (ps_for PassesOwn.never rfl (pi_range2 rfl T.range (pa_cons pe_int (pa_cons (pe_callB call_len_str (by rfl) T.len PySem.boot_len (pa_cons (pv 2) pa_nil)) pa_nil))) (pg_name (i := 3) sc_sorted_places.nd rfl (Or.inl rfl)) (pss_cons (ps_set (i := 4) sc_sorted_places.nd rfl (Or.inl rfl) (pe_slice sl_str (pv 2) po_none (po_some (pv 3))))
        (pss_one (ps_if (pt_not (pt_val (pe_call (ok_bears_barred L) (hr.mono (by decide)) rfl L.a_bears_barred.g L.a_bears_barred.F.kp L.a_bears_barred.b .nil pass0 (pa_cons (pv 4) (pa_cons (pv 0) pa_nil))))) (pss_one (ps_dput hu (pv 1) (pv 4) pe_bl rfl)) pss_nil))))))
        (pss_one (ps_ret (pe_callB (call_sortedD rfl) (by rfl) T.sorted bSorted (pa_cons (pv 1) pa_nil)))))), ?_⟩
    -- found = {'': True}
    intro d hd
    refine ⟨upd_same, [((Sum.inr "" : Key), V.bl true)], rfl, by decide, ?_⟩
    have s0 : Same H (upd (upd H d (.dK [])) d (.dK (mergeK [] [((Sum.inr "" : Key), V.bl true)]))) := by
      rw [upd_upd]
      exact Same.upd hd
    refine ⟨_, rfl, a, rfl, ⟨_, s0.seq hS⟩, for_list (K := K) (a := a) (xs := ws.map V.str) (fun i σ H2 => ∃ v2 v3 v4, σ = [some (.ref a), some (.ref d), v2, v3, v4] ∧ Same H H2 ∧ H2 d = some (.dK (dTrue (keysS ws "" (ws.take i)))))
      ⟨none, none, none, rfl, s0, upd_same⟩ (fun i σ H2 _ ⟨_, _, _, _, s2, _⟩ => s2.seq hS) ?_ ?_⟩
    · rintro i x σ H2 hx ⟨v2, v3, v4, rfl, s2, h2⟩
      have hi : i < ws.length := by have := (List.getElem?_eq_some_iff.mp hx).1; rwa [List.length_map] at this
      obtain ⟨wd, hwd, rfl⟩ : ∃ wd, ws[i]? = some wd ∧ x = .str wd := by
        rw [List.getElem?_map] at hx
        cases e : ws[i]? with
        | none => rw [e] at hx; cases hx
        | some z => rw [e] at hx; exact ⟨z, rfl, (Option.some.inj hx).symm⟩
      have hm : wd ∈ ws := List.mem_of_getElem? hwd
      have hwl := hw wd hm
      have tk : ws.take (i + 1) = ws.take i ++ [wd] := by rw [List.take_add_one, hwd]; rfl
      have hks : (keysS ws "" (ws.take i)).length ≤ 30 := by
        have := keysS_len (ws := ws) (e := "") (us := ws.take i) fun v hv => hw v (List.mem_of_mem_take hv)
        rw [List.length_take] at this
        omega
      refine ⟨_, rfl, wd, rfl, small16 (by omega), 1, _, rfl, ⟨by decide, by decide, by omega, by omega⟩, ?_⟩
      have en : ((wd.length : Int) - 1).toNat = wd.length - 1 := by omega
      refine for_range (lo := 1) (n := ((wd.length : Int) - 1).toNat) (fun j σ H3 => ∃ v3 v4, σ = [some (.ref a), some (.ref d), some (.str wd), v3, v4] ∧ Same H H3 ∧ H3 d = some (.dK (dTrue (upTo ws wd (keysS ws "" (ws.take i)) j))))
        ⟨v3, v4, rfl, s2, h2⟩ ?_ ?_
      · rintro j σ H3 hj ⟨v3, v4, rfl, s3, h3⟩
        have ec : (1 + (j : Int)) = ((1 + j : Nat) : Int) := by omega
        refine ⟨_, rfl, _, rfl, _, rfl, wd, rfl, small16 (by omega), ?_⟩
        rw [ec]
        have hul := upTo_len ws wd (keysS ws "" (ws.take i)) j
        refine ⟨_, rfl, _, rfl, takeS wd (1 + j), a, ws, rfl, s3.seq hS, by omega, fun H4 s4 => ⟨_, rfl, ?_⟩⟩
        have h4 := s4 _ _ h3
        cases hb : bears ws (takeS wd (1 + j)) with
        | true =>
          refine iteF ?_
          refine ⟨_, _, rfl, s3.trans s4, ?_⟩
          rw [h4, upTo_succ]
          unfold addP
          rw [if_pos hb]
        | false =>
          refine iteT ?_
          refine ⟨_, rfl, _, rfl, d, _, rfl, DPut.k (k := Sum.inr (takeS wd (1 + j))) h4 (by rw [dTrue_len]; exact small1000 (by omega)), ?_⟩
          refine ⟨_, _, rfl, fun b o e => ?_, ?_⟩
          · rw [upd_ne (ne_of_none e hd)]
            exact s4 _ _ (s3 _ _ e)
          · rw [upd_same, putK_true, upTo_succ]
            unfold addP
            rw [if_neg (by rw [hb]; exact Bool.false_ne_true)]
      · rintro σ H3 ⟨v3, v4, rfl, s3, h3⟩
        refine ⟨_, v3, v4, rfl, s3, ?_⟩
        rw [h3, tk, keysS_snoc, en]
        rfl
    · rintro σ H2 ⟨v2, v3, v4, rfl, s2, h2⟩
      rw [List.length_map, List.take_length] at h2
      have hkl := keysS_len (ws := ws) (e := "") (us := ws) hw
      refine ⟨_, rfl, d, _, _, rfl, h2, dTrue_keys _, by omega, fun l ss hl2 hp hs => ?_⟩
      exact k l ss _ (s2.trans (Same.upd hl2)) (s2.free hl2) upd_same hp hs
theorem sc_longest_end : FnScope ["row", "places", "cut"] ["row", "places"] (defScope (top 27)) := ⟨rfl, rfl, rfl, by decide +kernel, rfl, by decide +kernel, by decide +kernel⟩
theorem ok_longest_end (L : Lk K mg) : FnOk P w K mg base CX0 1 L.f_longest_end L.d_longest_end ["row", "places"] (spLong K) := by
  have T := L.T
  refine L.a_longest_end.F.ok sc_longest_end (fun vs H Q E h => ?_) (fun cdv A outer s H vs Q E hr h => ?_)
  · obtain ⟨r, a, ps, rfl, _⟩ := h
    rfl
  · obtain ⟨r, a, ps, rfl, hS, he, hl, k⟩ := h
    refine ⟨_, (pss_cons (ps_set (i := 2) sc_longest_end.nd rfl (Or.inl rfl) pe_int)
        (pss_cons (ps_while PassesOwn.never (pt_cmpR op_notIn_seq (pe_slice sl_str (pv 0) (po_some (pv 2)) po_none) (pv 1) rfl) (pss_one (ps_aug (i := 2) sc_longest_end.nd rfl (Or.inl rfl) pe_int ip_add)))
        (pss_one (ps_ret (pe_slice sl_str (pv 0) (po_some (pv 2)) po_none))))), ?_⟩
    refine ⟨fun m σ H2 => ∃ n : Nat, n ≤ r.length ∧ m = r.length - n ∧ σ = [some (.str r), some (.ref a), some (.int (n : Int))] ∧ Same H H2 ∧ ∀ j, j < n → dropS r j ∉ ps, ⟨r.length, 0, Nat.zero_le _, rfl, rfl, Same.refl _, fun j hj => absurd hj (Nat.not_lt_zero j)⟩, ?_⟩
    rintro m σ H2 ⟨n, hn, rfl, rfl, s2, hb⟩
    refine ⟨_, rfl, _, rfl, _, rfl, r, rfl, small16 (by omega), _, rfl, a, _, rfl, .inl (s2.seq hS), rfl, flat_strs ps, _, rfl, ?_⟩
    rw [if_pos rfl, inV_strs]
    by_cases h : dropS r n ∈ ps
    · have e : decide (Txt.slice r (some (n : Int)) none ∈ ps) = true := decide_eq_true h
      rw [e]
      refine iteF ?_
      refine ⟨_, rfl, _, rfl, _, rfl, r, rfl, small16 (by omega), ?_⟩
      have := k H2 s2
      unfold lend at this
      rw [lendN_eq h hb hn] at this
      exact this
    · have e : decide (Txt.slice r (some (n : Int)) none ∈ ps) = false := decide_eq_false h
      rw [e]
      refine iteT ?_
      have hlt : n < r.length := by
        rcases Nat.lt_or_eq_of_le hn with z | z
        · exact z
        · subst z
          rw [dropS_all] at h
          exact absurd he h
      refine ⟨fun σ' H' => ∃ n' : Nat, n' = n + 1 ∧ σ' = [some (.str r), some (.ref a), some (.int (n' : Int))] ∧ Same H H', ?_, ?_⟩
      · rintro σ' H' ⟨n', rfl, rfl, s'⟩
        refine ⟨r.length - (n + 1), by omega, n + 1, hlt, rfl, rfl, s', fun j hj => ?_⟩
        rcases Nat.lt_or_eq_of_le (Nat.le_of_lt_succ hj) with z | z
        · exact hb j z
        · rw [z]; exact h
      · exact ⟨_, rfl, _, _, rfl, rfl, n + 1, rfl, rfl, s2⟩
theorem sc_moves_from : FnScope ["place", "signs", "barred", "places", "moves", "sign", "row"] ["place", "signs", "barred", "places"] (defScope (top 28)) := ⟨rfl, rfl, rfl, by decide +kernel, rfl, by decide +kernel, by decide +kernel⟩
theorem ok_moves_from (L : Lk K mg) : FnOk P w K mg base CX0 2 L.f_moves_from L.d_moves_from ["place", "signs", "barred", "places"] (spMoves K) := by
  have T := L.T
  refine L.a_moves_from.F.ok sc_moves_from (fun vs H Q E h => ?_) (fun cdv A outer s H vs Q E hr h => ?_)
  · obtain ⟨p, g, a, b, ws, ps, rfl, _⟩ := h
    rfl
  · obtain ⟨p, g, a, b, ws, ps, rfl, hS, hP, he, hpl, hgl, hnd, hwl, k⟩ := h
    have hu := hu_of hr
    refine ⟨_, (pss_cons (ps_set (i := 4) sc_moves_from.nd rfl (Or.inl rfl) pe_dnewK)
        (pss_cons (ps_for PassesOwn.never rfl (pi_str (pv 1)) (pg_name (i := 5) sc_moves_from.nd rfl (Or.inl rfl)) (pss_cons (ps_set (i := 6) sc_moves_from.nd rfl (Or.inl rfl) (pe_op op_add_str (pv 0) (pv 5)))
        (pss_one (ps_dput hu (pv 4) (pv 5) (pe_ifExp (pt_val (pe_call (ok_bears_barred L) (hr.mono (by decide)) rfl L.a_bears_barred.g L.a_bears_barred.F.kp L.a_bears_barred.b .nil pass0 (pa_cons (pv 6) (pa_cons (pv 2) pa_nil)))) pe_non (pe_call (ok_longest_end L) (hr.mono (by decide)) rfl L.a_longest_end.g L.a_longest_end.F.kp L.a_longest_end.b .nil pass0 (pa_cons (pv 6) (pa_cons (pv 3) pa_nil)))) rfl))))
        (pss_one (ps_ret (pv 4))))), ?_⟩
    intro d hd
    refine ⟨_, rfl, g, rfl, for_is (itIs_str g) (fun i σ H2 => ∃ v5 v6, σ = [some (.str p), some (.str g), some (.ref a), some (.ref b), some (.ref d), v5, v6] ∧ Same H H2 ∧ H2 d = some (.dK (((ch g).take i).map fun c => ((Sum.inr (⟨#[c]⟩ : Str) : Key), mvV ws ps p c))))
      ⟨none, none, rfl, Same.upd hd, upd_same⟩ (fun _ _ _ _ _ => trivial) ?_ ?_⟩
    · rintro i x σ H2 hx ⟨v5, v6, rfl, s2, h2⟩
      obtain ⟨c, hc, rfl⟩ : ∃ c, (ch g)[i]? = some c ∧ x = .str ⟨#[c]⟩ := by
        unfold charsV at hx
        rw [List.getElem?_map] at hx
        cases e : (ch g)[i]? with
        | none => rw [show g.cps.toList[i]? = none from e] at hx; cases hx
        | some z => rw [show g.cps.toList[i]? = some z from e] at hx; exact ⟨z, rfl, (Option.some.inj hx).symm⟩
      have hi : i < (ch g).length := (List.getElem?_eq_some_iff.mp hc).1
      have hgl' := len_ch g
      have hrl : (p ++ (⟨#[c]⟩ : Str)).length = p.length + 1 := by rw [← len_ch, ch_append, List.length_append, len_ch]; rfl
      refine ⟨_, rfl, _, rfl, p, ⟨#[c]⟩, rfl, rfl, small16 (by show p.length + 1 ≤ _; omega), ?_⟩
      have fin : ∀ H4, Same H2 H4 → sDPut (tVar 4) (tVar 5) (fun _ H5 Q5 => Q5 (mvV ws ps p c) H5) { nx := fun σ H2 => ∃ v5 v6, σ = [some (.str p), some (.str g), some (.ref a), some (.ref b), some (.ref d), v5, v6] ∧ Same H H2 ∧ H2 d = some (.dK (((ch g).take (i + 1)).map fun c => ((Sum.inr (⟨#[c]⟩ : Str) : Key), mvV ws ps p c))), rt := Q }
          [some (.str p), some (.str g), some (.ref a), some (.ref b), some (.ref d), some (.str ⟨#[c]⟩), some (.str (p ++ ⟨#[c]⟩))] H4 := by
        intro H4 s4
        have h4 := s4 _ _ h2
        refine ⟨_, rfl, _, rfl, d, _, rfl, DPut.k (k := Sum.inr (⟨#[c]⟩ : Str)) h4 (by rw [List.length_map, List.length_take]; exact small1000 (by omega)), ?_⟩
        refine ⟨_, _, rfl, fun b o e => ?_, ?_⟩
        · rw [upd_ne (ne_of_none e hd)]
          exact s4 _ _ (s2 _ _ e)
        · rw [upd_same, putK_new]
          · have : (ch g).take (i + 1) = (ch g).take i ++ [c] := by rw [List.take_add_one, hc]; rfl
            rw [this, List.map_append]
            rfl
          · cases q : valV (((ch g).take i).map fun c => ((Sum.inr (⟨#[c]⟩ : Str) : Key), mvV ws ps p c)) (Sum.inr (⟨#[c]⟩ : Str) : Key) with
            | none => rfl
            | some v =>
              have := valV_in q
              rw [List.map_map] at this
              obtain ⟨c', hc', e⟩ := List.mem_map.mp this
              have e' : (⟨#[c']⟩ : Str) = ⟨#[c]⟩ := Sum.inr.inj e
              have : c' = c := by
                have := congrArg ch e'
                simpa [ch] using this
              subst this
              obtain ⟨j, hj, ej⟩ := List.mem_iff_getElem.mp hc'
              rw [List.getElem_take] at ej
              rw [List.length_take] at hj
              have e1 : (ch g)[i] = c' := (List.getElem?_eq_some_iff.mp hc).2
              have := (List.getElem_inj hnd).mp (ej.trans e1.symm)
              omega
      refine ⟨_, rfl, _, rfl, _, a, ws, rfl, s2.seq hS, hwl, fun H4 s4 => ⟨_, rfl, ?_⟩⟩
      cases hb : bears ws (p ++ ⟨#[c]⟩) with
      | true =>
        refine iteT ?_
        have := fin H4 s4
        unfold mvV at this
        rw [if_pos hb] at this
        unfold mvV
        exact this
      | false =>
        refine iteF ?_
        refine ⟨_, rfl, _, rfl, _, b, ps, rfl, (s2.trans s4).seq hP, he, by omega, fun H5 s5 => ?_⟩
        have := fin H5 (s4.trans s5)
        unfold mvV at this
        rw [if_neg (by rw [hb]; exact Bool.false_ne_true)] at this
        unfold mvV
        exact this
    · rintro σ H2 ⟨v5, v6, rfl, s2, h2⟩
      have e : (charsV g).length = (ch g).length := by unfold charsV; rw [List.length_map]
      rw [e, List.take_length] at h2
      exact ⟨_, rfl, k d H2 s2 hd h2⟩
end
end K1

set_option Elab.async false
set_option linter.all false
set_option maxRecDepth 100000
set_option maxHeartbeats 4000000
namespace K1
open PySem L2 Bs Sx
section
variable {P : Program} {w : World} {K : PySem.W.Frag} {mg : Str → Option Value} {base : Heap}
theorem sc_leads_into : FnScope ["ends", "lot"] ["ends", "lot"] (defScope (top 29)) := ⟨rfl, rfl, rfl, by decide +kernel, rfl, by decide +kernel, by decide +kernel⟩
theorem ok_leads_into (L : Lk K mg) : FnOk P w K mg base CX0 1 L.f_leads_into L.d_leads_into ["ends", "lot"] (spLeads K) := by
  have T := L.T
  refine L.a_leads_into.F.ok sc_leads_into (fun vs H Q E h => ?_) (fun cdv A outer s H vs Q E hr h => ?_)
  · obtain ⟨a, b, es, ls, rfl, _⟩ := h
    rfl
  · obtain ⟨a, b, es, ls, rfl, hA, hB, fa, fb, hl, k⟩ := h
    refine ⟨_, (pss_one (ps_ret (pe_callB (call_any rfl) (by rfl) T.any bAny (pa_cons (pe_comp rfl (blockOk_of (sc := defScope (top 29)) (N := ["ends", "lot"]) (ys := ["lot"]) (ix := [1]) rfl rfl (by decide +kernel)) (pi_list (pv 0)) (fun _ _ _ _ _ _ => pts_nil) (fun _ _ _ _ _ _ => (pe_cmpR (op_in_seqK (K := K) rfl) (pv 0) (pv 1) rfl))) pa_nil)))), ?_⟩
    refine ⟨_, rfl, a, rfl, ⟨_, hA⟩, fun l hl' => comp_map (gLot ls) (itIs_list K a es) hl' (small16 (by omega)) (fun H' s' => s'.seq hA) (fun x H3 Q' hx s3 q => ?_) (fun H' s' hl2 => ?_)⟩
    · exact ⟨_, rfl, _, rfl, b, ls, rfl, .inl (s3.seq hB), List.all_eq_true.mp fa x hx, fb, q H3 (Same.refl _)⟩
    · have e : es.map (gLot ls) = (es.map fun e => inV e ls).map V.bl := by rw [List.map_map]; rfl
      rw [e] at hl2
      refine ⟨l, _, rfl, SqL.of hl2, ?_⟩
      have := k H' s'
      rw [List.any_map]
      exact this
theorem sc_live_among : FnScope ["moves", "lot", "left"] ["moves"] (defScope (top 30)) := ⟨rfl, rfl, rfl, by decide +kernel, rfl, by decide +kernel, by decide +kernel⟩
theorem ok_live_among (L : Lk K mg) : FnOk P w K mg base CX0 2 L.f_live_among L.d_live_among ["moves"] (spLive K) := by
  have T := L.T
  refine L.a_live_among.F.ok sc_live_among (fun vs H Q E h => ?_) (fun cdv A outer s H vs Q E hr h => ?_)
  · obtain ⟨d, mv, es, rfl, _⟩ := h
    rfl
  · obtain ⟨d, mv, es, rfl, hd, hl, hm, hf, hel, k⟩ := h
    have hu := hu_of hr
    have hu0 : (A.deeper (PyProof.Rows.envOfC "live_among" (defScope (top 30)) s.heap.objs.size L.f_live_among cdv)).units < cLine := hr.units0
    refine ⟨_, (pss_cons (ps_set (i := 1) sc_live_among.nd rfl (Or.inr rfl) (pe_callTy (call_listD rfl) (by rfl) T.list bList (pa_cons (pv 0) pa_nil)))
        (pss_one (ps_while PassesOwn.never (pt_val pe_bl) (pss_cons (ps_setComp (i := 2) rfl (blockOk_of (sc := defScope (top 30)) (N := ["moves", "lot", "left"]) (ys := ["moves", "lot"]) (ix := [0, 1]) rfl rfl (by decide +kernel)) sc_live_among.nd rfl rfl (pi_list (pv 1)) (fun _ _ _ _ _ _ => pts_one (pt_val (pe_call (ok_leads_into L) (hr.mono (by decide)) rfl L.a_leads_into.g L.a_leads_into.F.kp L.a_leads_into.b .nil pass0 (pa_cons (pe_callTy (call_listV rfl) (by rfl) T.list bList (pa_cons (pe_bm0K (K := K) rfl PySem.F.plainAttrs_dict PySem.F.slot_dict_values PySem.F.type_dict_values mt_values (pe_dget hu (pv 1) (pv 0) (fun _ _ => rfl))) pa_nil)) (pa_cons (pv 2) pa_nil))))) (fun _ _ _ _ _ _ => (pv 0)))
        (pss_cons (ps_if (pt_cmpR (op_eqL hu0) (pv 2) (pv 1) (nomark _)) (pss_one (ps_ret (pv 1))) pss_nil)
        (pss_one (ps_set (i := 1) sc_live_among.nd rfl (Or.inr rfl) (pv 2)))))))), ?_⟩
    refine ⟨_, rfl, d, _, rfl, hd, fun l0 hl0 => ?_⟩
    refine ⟨fun m σ H2 => ∃ (l : Addr) (ls : List Str) (v : Option V), m = ls.length ∧ σ = [some (.ref d), some (.ref l), v] ∧ Same H H2 ∧ H l = none ∧ H2 l = some (.lst (ls.map V.str)) ∧ ls.Sublist (mv.map (·.1)) ∧
        ∀ lot : List Str, (∀ k ∈ lot, k ∈ mv.map (·.1) ∧ leads (es k) lot = true) → ∀ k ∈ lot, k ∈ ls,
      ⟨_, l0, mv.map (·.1), none, rfl, rfl, Same.upd hl0, hl0, by rw [upd_same, dRows_keys], List.Sublist.refl _, fun lot h k hk => (h k hk).1⟩, ?_⟩
    rintro m σ H2 ⟨l, ls, v, rfl, rfl, s2, hln, h2, hsub, hmost⟩
    refine ⟨true, rfl, iteT ?_⟩
    have hll : ls.length ≤ 1000 := by have := hsub.length_le; rw [List.length_map] at this; omega
    let p : V → Bool := fun x => match x with
      | .str k => leads (es k) ls
      | _ => false
    let ls' : List Str := ls.filter fun k => leads (es k) ls
    have efil : (ls.map V.str).filter p = ls'.map V.str := by
      rw [List.filter_map]
      rfl
    refine ⟨fun σ' H' => ∃ (l' : Addr) (v : Option V), σ' = [some (.ref d), some (.ref l'), v] ∧ Same H H' ∧ H l' = none ∧ H' l' = some (.lst (ls'.map V.str)) ∧ ls'.length < ls.length, ?_, ?_⟩
    · rintro σ' H' ⟨l', v, rfl, s', hn', h', hlt⟩
      refine ⟨ls'.length, hlt, l', ls', v, rfl, rfl, s', hn', h', (List.filter_sublist).trans hsub, fun lot h k hk => ?_⟩
      have hk1 := hmost lot h k hk
      exact List.mem_filter.mpr ⟨hk1, leads_mono (hmost lot h) (h k hk).2⟩
    · refine ⟨_, rfl, l, rfl, ⟨_, SqL.of h2⟩, fun l2 hl2 => comp_pure p (fun x => x) (itIs_list K l (ls.map V.str)) hl2 (by rw [List.length_map]; exact small16 (by omega)) (fun H' s' => s'.seq (SqL.of h2)) (fun x H3 Q' hx s3 q => ?_) (fun x H3 Q' hx _ s3 q => ⟨_, rfl, q H3 (Same.refl _)⟩) (fun H' s' h' => ?_)⟩
      · obtain ⟨kx, hkx, rfl⟩ := List.mem_map.mp hx
        obtain ⟨a, ha, hval⟩ := dRows_val (hsub.subset hkx)
        have sH3 : Same H H3 := s2.trans s3
        have hd3 := sH3 _ _ hd
        have ha3 := sH3 _ _ (hm _ ha)
        refine ⟨_, rfl, _, rfl, d, .ref a, rfl, ?_, ?_⟩
        · have := DGet.k (k := (Sum.inr kx : Key)) hd3
          rw [hval] at this
          exact this
        refine ⟨.inr (.inr (.inl ⟨rfl, .inl ⟨_, ha3⟩⟩)), a, _, rfl, rfl, ha3, fun vw hvw => ?_⟩
        refine ⟨vw, a, _, rfl, upd_same, by rw [upd_ne (ne_of_none ha3 hvw)]; exact ha3, fun l3 hl3 => ?_⟩
        have s4 : Same H3 (upd (upd H3 vw (viewV vw a)) l3 (.lst ((es kx).map (·.2)))) := (Same.upd hvw).trans (Same.upd hl3)
        refine ⟨_, rfl, l3, l, _, _, rfl, SqL.of upd_same, SqL.of (s4 _ _ (s3 _ _ h2)), hf kx, flat_strs ls, by rw [List.length_map]; exact hel kx, fun H5 s5 => ⟨_, rfl, ?_⟩⟩
        exact q H5 (s4.trans s5)
      · rw [List.map_id', efil] at h'
        have h2' := s' _ _ h2
        refine ⟨_, rfl, _, rfl, l2, l, _, _, rfl, rfl, SqL.of h', SqL.of h2', flat_strs _, flat_strs _, _, rfl, ?_⟩
        rw [eqVs_strs]
        have hl2' : H l2 = none := s2.free hl2
        by_cases e : ls' = ls
        · rw [decide_eq_true e]
          refine iteT ?_
          refine ⟨_, rfl, k l ls H' (s2.trans s') hln h2' ⟨hsub, fun kk hk => ?_, hmost⟩⟩
          have := e ▸ hk
          exact (List.mem_filter.mp this).2
        · rw [decide_eq_false e]
          refine iteF ?_
          refine ⟨_, rfl, l2, _, rfl, s2.trans s', hl2', h', ?_⟩
          rcases Nat.lt_or_eq_of_le (List.length_filter_le (fun k => leads (es k) ls) ls) with z | z
          · exact z
          · exact absurd ((List.filter_sublist (p := fun k => leads (es k) ls)).eq_of_length z) e
end
end K1

set_option Elab.async false
set_option linter.all false
set_option maxRecDepth 100000
set_option maxHeartbeats 4000000
namespace K1
open PySem L2 Bs Sx
section
variable {P : Program} {w : World} {K : PySem.W.Frag} {mg : Str → Option Value} {base : Heap}
theorem sc_Band___init__ : FnScope ["self", "signs", "barred", "places", "place"] ["self", "signs", "barred"] (defScope (inClass (top 31) 0)) := ⟨rfl, rfl, rfl, by decide +kernel, rfl, by decide +kernel, by decide +kernel⟩
theorem ok_Band___init__ (L : Lk K mg) : FnOk P w K mg base (CXe P w) 4 L.f_Band___init__ L.d_Band___init__ ["self", "signs", "barred"] (spInitT K L.c_Band L.c_NoSigns L.c_TooMany L.c_NoWord) := by
  have T := L.T
  refine L.m_Band___init__.F.okE sc_Band___init__ (fun vs H Q E h => ?_) (fun cdv A outer s H vs Q E hr h => ?_)
  · rcases h with ⟨x, dx, g, a, ws, rfl, _⟩ | ⟨x, a, v, rfl, _⟩ | ⟨x, a, g, xs, rfl, _⟩ <;> rfl
  · skip
    have hu := hu_of hr
    refine ⟨_, (pss_cons (ps_if (pt_not (pt_val (pe_call (ok_are_signs L) (hr.mono (by decide)) rfl L.a_are_signs.g L.a_are_signs.F.kp L.a_are_signs.b .nil pass0 (pa_cons (pv 1) pa_nil)))) (pss_one (ps_raise0 takes_fn rfl L.U_NoSigns L.hi_NoSigns rfl L.g_NoSigns (pa_cons pe_str pa_nil))) pss_nil)
        (pss_cons (ps_expr (pe_call (ok_check_barred L) (hr.mono (by decide)) rfl L.a_check_barred.g L.a_check_barred.F.kp L.a_check_barred.b .nil (passE takes_fn) (pa_cons (pv 2) (pa_cons (pv 1) pa_nil))))
        (pss_cons (ps_fld (pv 0) (pv 1) rfl)
        (pss_cons (ps_fld (pv 0) (pe_callTy call_list_of (by rfl) T.list bList (pa_cons (pv 2) pa_nil)) rfl)
        (pss_cons (ps_fld (pv 0) pe_dnewK rfl)
        (pss_cons (ps_set (i := 3) sc_Band___init__.nd rfl (Or.inl rfl) (pe_call (ok_sorted_places L) (hr.mono (by decide)) rfl L.a_sorted_places.g L.a_sorted_places.F.kp L.a_sorted_places.b .nil pass0 (pa_cons (pv 2) pa_nil)))
        (pss_cons (ps_for PassesOwn.leaving rfl (pi_list (pv 3)) (pg_name (i := 4) sc_Band___init__.nd rfl (Or.inl rfl)) (pss_one (ps_dput hu (pe_fld (pv 0) rfl) (pv 4) (pe_call (ok_moves_from L) (hr.mono (by decide)) rfl L.a_moves_from.g L.a_moves_from.F.kp L.a_moves_from.b .nil pass0 (pa_cons (pv 4) (pa_cons (pv 1) (pa_cons (pv 2) (pa_cons (pv 3) pa_nil))))) rfl)))
        (pss_one (ps_fld (pv 0) (pe_call (ok_live_among L) (hr.mono (by decide)) rfl L.a_live_among.g L.a_live_among.F.kp L.a_live_among.b .nil pass0 (pa_cons (pe_fld (pv 0) rfl) pa_nil)) rfl))))))))), ?_⟩
    rcases h with ⟨x, dx, g, a, ws, rfl, hx, hS, sg, hl, hw, k⟩ | ⟨x, a, v, rfl, N, k⟩ | ⟨x, a, g, xs, rfl, sg, hS, hxl, hxs, k⟩
    rotate_left
    · exact ⟨_, rfl, v, rfl, .inr ⟨N, fun H1 s1 => ⟨false, rfl, iteT ⟨rfl, k H1 s1⟩⟩⟩⟩
    · refine ⟨_, rfl, .str g, rfl, .inl ⟨g, rfl, sg, fun H1 s1 => ⟨true, rfl, iteF ?_⟩⟩⟩
      refine ⟨_, rfl, _, rfl, a, g, xs, rfl, s1.seq hS, hxl, fun v hv => (hxs v hv).imp id fun h => h.same s1, ?_⟩
      rcases k with ⟨h6, k⟩ | ⟨h6, i, x0, hx0, hn, hb, k⟩
      · exact .inl ⟨h6, ErrN.same k s1⟩
      · exact .inr (.inr ⟨h6, i, x0, hx0, hn.same s1, hb, ErrN.same k s1⟩)
    have hwl : ∀ w ∈ ws, w.length ≤ 5 := fun w h => (hw w h).hi
    refine ⟨_, rfl, .str g, rfl, .inl ⟨g, rfl, sg, fun H1 s1 => ⟨true, rfl, iteF ?_⟩⟩⟩
    have hall : ∀ v ∈ ws.map V.str, ∃ z, v = .str z ∧ Word g z := fun v hv => by
      obtain ⟨z, hz, rfl⟩ := List.mem_map.mp hv
      exact ⟨z, rfl, hw z hz⟩
    refine ⟨_, rfl, _, rfl, a, g, ws.map V.str, rfl, s1.seq hS, by rw [List.length_map]; omega, fun v hv => .inl (hall v hv), .inr (.inl ⟨by rw [List.length_map]; exact hl, hall, fun H2 s2 => ?_⟩)⟩
    have s02 : Same H H2 := s1.trans s2
    have hx2 := s02 _ _ hx
    -- self.signs = signs
    refine ⟨_, rfl, _, rfl, x, L.c_Band, dx, _, rfl, hx2, L.cl_Band.cl, L.cl_Band.n_signs, by decide, ?_⟩
    rw [put1]
    have keep1 : ∀ (o : HO) b ob, H b = some ob → b ≠ x → (upd H2 x o) b = some ob := fun o b ob e hb => by rw [upd_ne hb]; exact s02 _ _ e
    have seqx : ∀ {H' : Hp} (h : ∀ b o, H b = some o → b ≠ x → H' b = some o), SqL K H' a (ws.map V.str) := fun {H'} h => by
      have nax : ∀ o, H a = some o → (∀ fs, o ≠ .ins L.c_Band dx fs) → a ≠ x := fun o e ne z => by
        subst z
        rw [hx] at e
        exact ne [] (Option.some.inj e).symm
      rcases hS with (e | ⟨o, e⟩) | e
      · exact .inl (.inl (h _ _ e (nax _ e (fun _ z => by cases z))))
      · exact .inl (.inr ⟨o, h _ _ e (nax _ e (fun _ z => by cases z))⟩)
      · exact .inr e
    -- self.barred = list(barred)
    refine ⟨_, rfl, a, _, rfl, .inl (seqx (keep1 _)), fun b hb => ?_⟩
    have nbx : x ≠ b := ne_of_none upd_same hb
    have hbH2 : H2 b = none := by rw [upd_ne nbx.symm] at hb; exact hb
    refine ⟨_, rfl, x, L.c_Band, dx, fl1 g, rfl, by rw [upd_ne nbx, upd_same], L.cl_Band.cl, L.cl_Band.n_barred, (show 1 < 1000 by decide), ?_⟩
    rw [put2]
    -- self.moves = {}
    intro d hd
    have ndx : x ≠ d := ne_of_none upd_same hd
    have ndb : b ≠ d := by
      intro z; subst z
      rw [upd_ne nbx.symm, upd_same] at hd
      cases hd
    have hdH2 : H2 d = none := by rw [upd_ne ndx.symm, upd_ne ndb.symm, upd_ne ndx.symm] at hd; exact hd
    refine ⟨_, rfl, x, L.c_Band, dx, fl2 g b, rfl, by rw [upd_ne ndx, upd_same], L.cl_Band.cl, L.cl_Band.n_moves, (show 2 < 1000 by decide), ?_⟩
    rw [put3]
    generalize hH3 : upd (upd (upd (upd (upd H2 x (.ins L.c_Band dx (fl1 g))) b (.lst (ws.map V.str))) x (.ins L.c_Band dx (fl2 g b))) d (.dK [])) x (.ins L.c_Band dx (fl3 g b d)) = H3
    have x3 : H3 x = some (.ins L.c_Band dx (fl3 g b d)) := by rw [← hH3, upd_same]
    have d3 : H3 d = some (.dK []) := by rw [← hH3, upd_ne ndx.symm, upd_same]
    have b3 : H3 b = some (.lst (ws.map V.str)) := by rw [← hH3, upd_ne nbx.symm, upd_ne ndb, upd_ne nbx.symm, upd_same]
    have k3 : ∀ c o, H c = some o → c ≠ x → H3 c = some o := fun c o e hc => by
      have e2 := s02 _ _ e
      rw [← hH3, upd_ne hc, upd_ne (ne_of_none e2 hdH2), upd_ne hc, upd_ne (ne_of_none e2 hbH2), upd_ne hc]
      exact e2
    clear hH3
    -- places = sorted_places(barred)
    refine ⟨_, rfl, a, ws, rfl, seqx k3, hl, hwl, fun l ss H4 s4 hl4 h4 hp hso => ?_⟩
    have hnd : ss.Nodup := hp.nodup_iff.mpr (keysS_nodup ws)
    have hsl : ss.length ≤ 25 := by have := keysS_len (ws := ws) (e := "") (us := ws) hwl; rw [hp.length_eq]; omega
    have hlen5 : ∀ p ∈ ss, p.length ≤ 5 := fun p hpm => place_len hwl p (hp.mem_iff.mp hpm)
    have hemp : ("" : Str) ∈ ss := hp.mem_iff.mpr (keysS_empty ws)
    have nld : l ≠ d := fun z => by rw [z, d3] at hl4; cases hl4
    have nlx : l ≠ x := fun z => by rw [z, x3] at hl4; cases hl4
    -- the loop
    refine ⟨_, rfl, l, rfl, ⟨_, SqL.of h4⟩, for_list (K := K) (a := l) (xs := ss.map V.str) (fun i σ H5 => ∃ v4 mv, σ = [some (.ref x), some (.str g), some (.ref a), some (.ref l), v4] ∧ H5 d = some (.dK (dRows mv)) ∧ mv.map (·.1) = ss.take i ∧ (∀ m ∈ mv, H5 m.2 = some (.dK (rowOf g ws ss m.1))) ∧ (∀ m ∈ mv, H4 m.2 = none) ∧ (∀ c o, H4 c = some o → c ≠ d → H5 c = some o))
      ⟨none, [], rfl, s4 _ _ d3, rfl, fun m hm => (nomatch hm), fun m hm => (nomatch hm), fun c o e _ => e⟩ (fun i σ H5 _ ⟨_, _, _, _, _, _, _, kk⟩ => SqL.of (kk _ _ h4 nld)) ?_ ?_⟩
    · rintro i y σ H5 hy ⟨v4, mv, rfl, h5d, hks, hrow, hfr, kk⟩
      obtain ⟨p, hpi, rfl⟩ : ∃ p, ss[i]? = some p ∧ y = .str p := by
        rw [List.getElem?_map] at hy
        cases e : ss[i]? with
        | none => rw [e] at hy; cases hy
        | some z => rw [e] at hy; exact ⟨z, rfl, (Option.some.inj hy).symm⟩
      have hi : i < ss.length := (List.getElem?_eq_some_iff.mp hpi).1
      have hpm : p ∈ ss := List.mem_of_getElem? hpi
      have k5 : ∀ c o, H c = some o → c ≠ x → H5 c = some o := fun c o e hc => kk _ _ (s4 _ _ (k3 c o e hc)) (fun z => by
        subst z
        have := s02 _ _ e
        rw [hdH2] at this; cases this)
      have x5 : H5 x = some (.ins L.c_Band dx (fl3 g b d)) := kk _ _ (s4 _ _ x3) ndx
      refine ⟨_, rfl, _, rfl, _, rfl, _, rfl, p, g, a, l, ws, ss, rfl, seqx k5, SqL.of (kk _ _ h4 nld), hemp, by have := hlen5 p hpm; omega, by have := sg.hi; omega, sg.nd, by omega, fun e H6 s6 he6 h6 => ?_⟩
      have d6 := s6 _ _ h5d
      have pnew : p ∉ mv.map (·.1) := by
        rw [hks]
        intro hm
        obtain ⟨j, hj, ej⟩ := List.mem_iff_getElem.mp hm
        rw [List.getElem_take] at ej
        rw [List.length_take] at hj
        have e1 : ss[i] = p := (List.getElem?_eq_some_iff.mp hpi).2
        have := (List.getElem_inj hnd).mp (ej.trans e1.symm)
        omega
      have hmvl : mv.length ≤ 25 := by have := congrArg List.length hks; rw [List.length_map, List.length_take] at this; omega
      refine ⟨_, rfl, x, L.c_Band, dx, _, _, rfl, s6 _ _ x5, L.cl_Band.cl, L.cl_Band.n_moves, look_moves3 g b d, _, rfl, d, _, rfl, DPut.k (k := Sum.inr p) d6 (by unfold dRows; rw [List.length_map]; exact small1000 (by omega)), ?_⟩
      have ned : e ≠ d := fun z => by rw [z, h5d] at he6; cases he6
      have e4 : H4 e = none := by
        cases q : H4 e with
        | none => rfl
        | some o =>
          have := kk _ _ q ned
          rw [this] at he6; cases he6
      refine ⟨_, mv ++ [(p, e)], rfl, ?_, ?_, ?_, ?_, ?_⟩
      · rw [upd_same, putK_new _ (dRows_none pnew)]
        unfold dRows
        rw [List.map_append]
        rfl
      · rw [List.map_append, hks]
        have : ss.take (i + 1) = ss.take i ++ [p] := by rw [List.take_add_one, hpi]; rfl
        rw [this]
        rfl
      · intro m hm
        rcases List.mem_append.mp hm with z | z
        · have nm : m.2 ≠ d := fun q => by
            have := hrow m z
            rw [q, h5d] at this
            have := hfr m z
            rw [q] at this
            rw [s4 _ _ d3] at this
            cases this
          rw [upd_ne nm]
          exact s6 _ _ (hrow m z)
        · have : m = (p, e) := by simpa using z
          subst this
          rw [upd_ne ned]
          exact h6
      · intro m hm
        rcases List.mem_append.mp hm with z | z
        · exact hfr m z
        · have : m = (p, e) := by simpa using z
          subst this
          exact e4
      · intro c o hc ncd
        rw [upd_ne ncd]
        exact s6 _ _ (kk c o hc ncd)
    · rintro σ H5 ⟨v4, mv, rfl, h5d, hks, hrow, hfr, kk⟩
      rw [List.length_map, List.take_length] at hks
      have x5 : H5 x = some (.ins L.c_Band dx (fl3 g b d)) := kk _ _ (s4 _ _ x3) ndx
      have hmvl : mv.length ≤ 1000 := by have := congrArg List.length hks; rw [List.length_map] at this; omega
      refine ⟨_, rfl, x, L.c_Band, dx, _, _, rfl, x5, L.cl_Band.cl, L.cl_Band.n_moves, look_moves3 g b d, d, mv, rowOf g ws ss, rfl, h5d, hmvl, hrow, fun kx => rowOf_flat g ws ss kx, fun kx => by rw [rowOf_len]; have := sg.hi; omega, fun q ls H6 s6 hq h6 lv => ?_⟩
      refine ⟨_, rfl, x, L.c_Band, dx, _, rfl, s6 _ _ x5, L.cl_Band.cl, L.cl_Band.n_lasting, (show 3 < 1000 by decide), ?_⟩
      rw [put4]
      have nqx : q ≠ x := fun z => by rw [z, x5] at hq; cases hq
      have nmx : ∀ m ∈ mv, m.2 ≠ x := fun m hm z => by
        have := hrow m hm
        rw [z, x5] at this
        cases this
      have stay : ∀ c o, H c = some o → c ≠ x → H5 c = some o := fun c o e hc => kk _ _ (s4 _ _ (k3 c o e hc)) (fun z => by
        subst z
        have := s02 _ _ e
        rw [hdH2] at this; cases this)
      have fq : H q = none := by
        cases z : H q with
        | none => rfl
        | some o => rw [stay _ _ z nqx] at hq; cases hq
      have fm : ∀ m ∈ mv, H m.2 = none := fun m hm => by
        cases z : H m.2 with
        | none => rfl
        | some o =>
          have := hfr m hm
          rw [s4 _ _ (k3 _ _ z (nmx m hm))] at this
          cases this
      refine k ss ls _ ⟨⟨dx, b, d, q, mv, newX_self upd_same, newX_at (none_of s02 hbH2) ?_, newX_at (none_of s02 hdH2) ?_, hks, fun m hm => newX_at (fm m hm) ?_, newX_at fq ?_⟩, hp, hso, hks ▸ lv⟩ fun c o e hc => ?_
      · rw [upd_ne nbx.symm]
        exact s6 _ _ (kk _ _ (s4 _ _ b3) ndb)
      · rw [upd_ne ndx.symm]
        exact s6 _ _ h5d
      · rw [upd_ne (nmx m hm)]
        exact s6 _ _ (hrow m hm)
      · rw [upd_ne nqx]
        exact h6
      · rw [upd_ne hc]
        exact s6 _ _ (stay c o e hc)
theorem sc_Band_longest : FnScope ["self"] ["self"] (defScope (inClass (top 31) 9)) := ⟨rfl, rfl, rfl, by decide +kernel, rfl, by decide +kernel, by decide +kernel⟩
theorem ok_Band_longest (L : Lk K mg) : FnOk P w K mg base CX0 1 L.f_Band_longest L.d_Band_longest ["self"] (spLongest L.c_Band) := by
  have T := L.T
  refine L.m_Band_longest.F.ok sc_Band_longest (fun vs H Q E h => ?_) (fun cdv A outer s H vs Q E hr h => ?_)
  · obtain ⟨x, g, ws, ss, ls, rfl, _⟩ := h
    rfl
  · obtain ⟨x, g, ws, ss, ls, rfl, B, hl, hwl, k⟩ := h
    refine ⟨_, (pss_one (ps_ret (pe_maxK rfl (by rfl) T.max (pa_cons (pe_comp rfl (blockOk_of (sc := defScope (inClass (top 31) 9)) (N := ["self"]) (ys := []) (ix := []) rfl rfl (by decide +kernel)) (pi_list (pe_fld (pv 0) rfl)) (fun _ _ _ _ _ _ => pts_nil) (fun _ _ _ _ _ _ => (pe_callB call_len_str (by rfl) T.len PySem.boot_len (pa_cons (pv 0) pa_nil)))) pa_nil) pe_int))), ?_⟩
    obtain ⟨⟨dx, b, d, q, mv, h1, h2, h3, h4, h5, h6⟩, _, _, _⟩ := id B
    refine ⟨_, rfl, x, L.c_Band, dx, _, _, rfl, h1, L.cl_Band.cl, L.cl_Band.n_barred, look_barred g b d q, b, rfl, ⟨_, SqL.of h2⟩, fun lc hlc => ?_⟩
    refine comp_map (fun v => match v with | .str z => .int z.length | _ => .non) (itIs_list K b (ws.map V.str)) hlc (by rw [List.length_map]; exact small16 (by omega)) (fun H' s' => SqL.of (s' _ _ h2)) (fun y H5 Q' hy s5 q => ?_) (fun H5 s5 h5' => ?_)
    · obtain ⟨w, hw, rfl⟩ := List.mem_map.mp hy
      exact ⟨_, rfl, w, rfl, small16 (by have := hwl w hw; omega), q H5 (Same.refl _)⟩
    have elen : (ws.map V.str).map (fun v => match v with | .str z => V.int z.length | _ => .non) = (ws.map fun (w : Str) => (w.length : Int)).map V.int := by
      rw [List.map_map, List.map_map]
      rfl
    rw [elen] at h5'
    refine ⟨lc, _, 0, rfl, rfl, SqL.of h5', fun e => ?_, fun M hM hMx => ?_⟩
    · rw [e] at k
      exact k 0 H5 s5 ⟨List.mem_singleton.mpr rfl, fun a ha => by rw [List.mem_singleton.mp ha]; exact Int.le_refl _⟩
    · refine k M H5 s5 ⟨List.mem_cons_of_mem _ hM, fun a ha => ?_⟩
      rcases List.mem_cons.mp ha with e | ha
      · rw [e]
        obtain ⟨w, _, rfl⟩ := List.mem_map.mp hM
        omega
      · exact hMx a ha
end
end K1

set_option Elab.async false
set_option linter.all false
set_option maxRecDepth 100000
set_option maxHeartbeats 4000000
namespace K1
open PySem L2 Bs Sx
section
variable {P : Program} {w : World} {K : PySem.W.Frag} {mg : Str → Option Value} {base : Heap}
def spOth01 (K : PySem.W.Frag) (CB : Addr) : Sp := fun vs H Q _ => ∃ (e C : Addr) (od : Option Addr) (nm : Str), vs = [.ref e] ∧ H e = some (XC e C od) ∧ (∀ d, od = some d → ∃ fs, H d = some (.xd fs)) ∧ XUnder K C CB nm ∧ XIsi K C ∧ (nm = "NoSigns" ∨ nm = "TooMany" ∨ nm = "NoWord") ∧ ∀ H', Same H H' → Q (.bl false) H'
theorem sc__law_others : FnScope ["_law_e", "_law_some"] ["_law_e"] (defScope (top 40)) := ⟨rfl, rfl, rfl, by decide +kernel, rfl, by decide +kernel, by decide +kernel⟩
theorem ok__law_others (L : Lk K mg) : FnOk P w K mg base CX0 1 L.f__law_others L.d__law_others ["_law_e"] (spOth01 K L.c_BandError) := by
  have T := L.T
  refine L.a__law_others.F.ok sc__law_others (fun vs H Q E h => ?_) (fun cdv A outer s H vs Q E hr h => ?_)
  · obtain ⟨e, C, od, nm, rfl, _⟩ := h
    rfl
  · obtain ⟨e, C, od, nm, rfl, hE, hD, U, Y, hnm, k⟩ := h
    refine ⟨_, (pss_cons (ps_set (i := 1) sc__law_others.nd rfl (Or.inl rfl) (pe_lst (pa_cons (pe_callB call_isiX (by rfl) T.isi bIsi (pa_cons (pv 0) (pa_cons (pe_glob (v := .ref L.c_Barred) (by rfl) L.g_Barred rfl) pa_nil))) (pa_cons (pe_callB call_isiX (by rfl) T.isi bIsi (pa_cons (pv 0) (pa_cons (pe_glob (v := .ref L.c_NoBand) (by rfl) L.g_NoBand rfl) pa_nil))) (pa_cons (pe_callB call_isiX (by rfl) T.isi bIsi (pa_cons (pv 0) (pa_cons (pe_glob (v := .ref L.c_NoData) (by rfl) L.g_NoData rfl) pa_nil))) (pa_cons (pe_callB call_isiX (by rfl) T.isi bIsi (pa_cons (pv 0) (pa_cons (pe_glob (v := .ref L.c_NoForm) (by rfl) L.g_NoForm rfl) pa_nil))) pa_nil))))))
        (pss_cons (ps_set (i := 1) sc__law_others.nd rfl (Or.inl rfl) (pe_op op_cat (pv 1) (pe_lst (pa_cons (pe_callB call_isiX (by rfl) T.isi bIsi (pa_cons (pv 0) (pa_cons (pe_glob (v := .ref L.c_NoLength) (by rfl) L.g_NoLength rfl) pa_nil))) (pa_cons (pe_callB call_isiX (by rfl) T.isi bIsi (pa_cons (pv 0) (pa_cons (pe_glob (v := .ref L.c_NoNumber) (by rfl) L.g_NoNumber rfl) pa_nil))) (pa_cons (pe_callB call_isiX (by rfl) T.isi bIsi (pa_cons (pv 0) (pa_cons (pe_glob (v := .ref L.c_NoPlace) (by rfl) L.g_NoPlace rfl) pa_nil))) (pa_cons (pe_callB call_isiX (by rfl) T.isi bIsi (pa_cons (pv 0) (pa_cons (pe_glob (v := .ref L.c_NoRate) (by rfl) L.g_NoRate rfl) pa_nil))) pa_nil)))))))
        (pss_cons (ps_set (i := 1) sc__law_others.nd rfl (Or.inl rfl) (pe_op op_cat (pv 1) (pe_lst (pa_cons (pe_callB call_isiX (by rfl) T.isi bIsi (pa_cons (pv 0) (pa_cons (pe_glob (v := .ref L.c_NoRow) (by rfl) L.g_NoRow rfl) pa_nil))) (pa_cons (pe_callB call_isiX (by rfl) T.isi bIsi (pa_cons (pv 0) (pa_cons (pe_glob (v := .ref L.c_NoSplit) (by rfl) L.g_NoSplit rfl) pa_nil))) (pa_cons (pe_callB call_isiX (by rfl) T.isi bIsi (pa_cons (pv 0) (pa_cons (pe_glob (v := .ref L.c_NoWriter) (by rfl) L.g_NoWriter rfl) pa_nil))) (pa_cons (pe_callB call_isiX (by rfl) T.isi bIsi (pa_cons (pv 0) (pa_cons (pe_glob (v := .ref L.c_Open) (by rfl) L.g_Open rfl) pa_nil))) pa_nil)))))))
        (pss_one (ps_ret (pe_or (pe_callB (call_any rfl) (by rfl) T.any bAny (pa_cons (pv 1) pa_nil)) (pe_or (pe_callB call_isiX (by rfl) T.isi bIsi (pa_cons (pv 0) (pa_cons (pe_glob (v := .ref L.c_Scarce) (by rfl) L.g_Scarce rfl) pa_nil))) (pe_one (pe_not (pe_callB call_isiX (by rfl) T.isi bIsi (pa_cons (pv 0) (pa_cons (pe_bltn (v := .ty "ValueError") (by rfl) T.ValueError bVE rfl) pa_nil)))))))))))), ?_⟩
    have no : ∀ {D : Addr} {nm' : Str}, XRaw K D L.c_BandError nm' → ¬ nm' = "BandError" → ¬ ("NoSigns" : Str) = nm' → ¬ ("TooMany" : Str) = nm' → ¬ ("NoWord" : Str) = nm' → PySem.W.kitOne K (.ref C) (.ref D) = some false := fun V h0 h1 h2 h3 => by
      rcases hnm with rfl | rfl | rfl
      · exact kit_diffR U V L.XT h0 h1
      · exact kit_diffR U V L.XT h0 h2
      · exact kit_diffR U V L.XT h0 h3
    have isF : ∀ {H1 : Hp}, Same H H1 → ∀ {D : Addr} {nm' : Str}, XRaw K D L.c_BandError nm' → ¬ nm' = "BandError" → ¬ ("NoSigns" : Str) = nm' → ¬ ("TooMany" : Str) = nm' → ¬ ("NoWord" : Str) = nm' → IsiV K H1 (.ref e) (.ref D) false := @fun H1 s1 D nm1 V h0 h1 h2 h3 =>
      .exc (s1 _ _ hE) (fun d hd => let ⟨fs, h⟩ := hD d hd; ⟨fs, s1 _ _ h⟩) U Y (no V h0 h1 h2 h3)
    have r := Same.refl H
    refine ⟨_, rfl, _, _, false, rfl, isF r L.V_Barred (by decide +kernel) (by decide +kernel) (by decide +kernel) (by decide +kernel), _, rfl, _, _, false, rfl, isF r L.V_NoBand (by decide +kernel) (by decide +kernel) (by decide +kernel) (by decide +kernel), _, rfl, _, _, false, rfl, isF r L.V_NoData (by decide +kernel) (by decide +kernel) (by decide +kernel) (by decide +kernel), _, rfl, _, _, false, rfl, isF r L.V_NoForm (by decide +kernel) (by decide +kernel) (by decide +kernel) (by decide +kernel), by show 4 ≤ sizeLine; decide, fun l1 hl1 => ?_⟩
    have s1 : Same H (upd H l1 (.lst [.bl false, .bl false, .bl false, .bl false])) := Same.upd hl1
    refine ⟨_, rfl, _, rfl, _, _, false, rfl, isF s1 L.V_NoLength (by decide +kernel) (by decide +kernel) (by decide +kernel) (by decide +kernel), _, rfl, _, _, false, rfl, isF s1 L.V_NoNumber (by decide +kernel) (by decide +kernel) (by decide +kernel) (by decide +kernel), _, rfl, _, _, false, rfl, isF s1 L.V_NoPlace (by decide +kernel) (by decide +kernel) (by decide +kernel) (by decide +kernel), _, rfl, _, _, false, rfl, isF s1 L.V_NoRate (by decide +kernel) (by decide +kernel) (by decide +kernel) (by decide +kernel), by show 4 ≤ sizeLine; decide, fun l2 hl2 => ?_⟩
    refine ⟨l1, l2, _, _, rfl, rfl, Same.upd hl2 _ _ upd_same, upd_same, by show 8 ≤ sizeLine; decide, fun l3 hl3 => ?_⟩
    have s3 := (s1.trans (Same.upd (o := .lst [.bl false, .bl false, .bl false, .bl false]) hl2)).trans (Same.upd (o := .lst ([.bl false, .bl false, .bl false, .bl false] ++ [.bl false, .bl false, .bl false, .bl false])) hl3)
    refine ⟨_, rfl, _, rfl, _, _, false, rfl, isF s3 L.V_NoRow (by decide +kernel) (by decide +kernel) (by decide +kernel) (by decide +kernel), _, rfl, _, _, false, rfl, isF s3 L.V_NoSplit (by decide +kernel) (by decide +kernel) (by decide +kernel) (by decide +kernel), _, rfl, _, _, false, rfl, isF s3 L.V_NoWriter (by decide +kernel) (by decide +kernel) (by decide +kernel) (by decide +kernel), _, rfl, _, _, false, rfl, isF s3 L.V_Open (by decide +kernel) (by decide +kernel) (by decide +kernel) (by decide +kernel), by show 4 ≤ sizeLine; decide, fun l4 hl4 => ?_⟩
    refine ⟨l3, l4, _, _, rfl, rfl, Same.upd hl4 _ _ upd_same, upd_same, by show 12 ≤ sizeLine; decide, fun l5 hl5 => ?_⟩
    have s5 := (s3.trans (Same.upd (o := .lst [.bl false, .bl false, .bl false, .bl false]) hl4)).trans (Same.upd (o := .lst (([.bl false, .bl false, .bl false, .bl false] ++ [.bl false, .bl false, .bl false, .bl false]) ++ [.bl false, .bl false, .bl false, .bl false])) hl5)
    refine ⟨_, rfl, l5, List.replicate 12 false, rfl, SqL.of upd_same, false, rfl, iteF ?_⟩
    refine ⟨_, rfl, _, _, false, rfl, isF s5 L.V_Scarce (by decide +kernel) (by decide +kernel) (by decide +kernel) (by decide +kernel), false, rfl, iteF ?_⟩
    exact ⟨_, rfl, _, _, true, rfl, .val (s5 _ _ hE) (fun d hd => let ⟨fs, h⟩ := hD d hd; ⟨fs, s5 _ _ h⟩) U Y (kit_value U), true, rfl, k _ s5⟩
def spTold01 (K : PySem.W.Frag) (CB : Addr) : Sp := fun vs H Q _ => ∃ (v : V) (a : Addr) (xs : List V), vs = [v, .ref a] ∧ SqL K H a xs ∧ xs.length ≤ 100 ∧
  ((∃ (g : Str) (ws : List Str), v = .str g ∧ xs = ws.map V.str ∧ Signs g ∧ ws.length ≤ 6 ∧ (∀ w ∈ ws, Word g w) ∧ ∀ (p x : Addr) (ss ls : List Str) (H' : Hp), Same H H' → H' p = some (.tup [.int 0, .ref x]) → BandAt CB (newIn H H') x g ws ss ls → Q (.ref p) H') ∨
   (NoSg H v ∧ ∀ (p : Addr) (H' : Hp), Same H H' → H' p = some (.tup [.int 1, .int 0]) → Q (.ref p) H') ∨
   (∃ g : Str, v = .str g ∧ Signs g ∧ (∀ x ∈ xs, (∃ z, x = .str z ∧ Word g z) ∨ NoWd g H x) ∧ 6 < xs.length ∧ ∀ (p : Addr) (H' : Hp), Same H H' → H' p = some (.tup [.int 2, .int xs.length]) → Q (.ref p) H') ∨
   (∃ (g : Str) (i : Nat) (x : V), v = .str g ∧ Signs g ∧ (∀ x ∈ xs, (∃ z, x = .str z ∧ Word g z) ∨ NoWd g H x) ∧ xs.length ≤ 6 ∧ xs[i]? = some x ∧ NoWd g H x ∧ (∀ (j : Nat) y, j < i → xs[j]? = some y → ∃ z, y = .str z ∧ Word g z) ∧ ∀ (p : Addr) (H' : Hp), Same H H' → H' p = some (.tup [.int 3, .int (i : Nat)]) → Q (.ref p) H'))
theorem XC_ne {H1 : Hp} {e : Addr} (he : H1 e = none) {d : Addr} {o : HO} (h : H1 d = some o) (z : HO) : (upd H1 e z) d = some o := by
  rw [upd_ne (ne_of_none h he)]
  exact h
theorem sc__law_told : FnScope ["_law_signs_here", "_law_words_here", "_law_caught", "_law_band", "_law_e", "_law_some"] ["_law_signs_here", "_law_words_here"] (defScope (top 41)) := ⟨rfl, rfl, rfl, by decide +kernel, rfl, by decide +kernel, by decide +kernel⟩
theorem ok__law_told (L : Lk K mg) : FnOk P w K mg base CX0 6 L.f__law_told L.d__law_told ["_law_signs_here", "_law_words_here"] (spTold01 K L.c_Band) := by
  have T := L.T
  refine L.a__law_told.F.ok sc__law_told (fun vs H Q E h => ?_) (fun cdv A outer s H vs Q E hr h => ?_)
  · obtain ⟨v, a, xs, rfl, _⟩ := h
    rfl
  · obtain ⟨v, a, xs, rfl, hS, hxl, hin⟩ := h
    refine ⟨_, (pss_cons (ps_set (i := 2) sc__law_told.nd rfl (Or.inl rfl) pe_non)
        (pss_cons (ps_set (i := 3) sc__law_told.nd rfl (Or.inl rfl) pe_non)
        (pss_cons (ps_try ⟨rfl, rfl⟩ (pssx_one (psx_set (i := 3) sc__law_told.nd rfl (Or.inl rfl) (pex_make L.mk_Band (ok_Band___init__ L) (hr.mono (by decide)) rfl L.g_Band L.m_Band___init__.b (pa_cons (pv 0) (pa_cons (pv 1) pa_nil))))) rfl L.g_BandError L.XT sc__law_told.nd (j := 4) (i := 2) rfl rfl rfl (Or.inl rfl))
        (pss_cons (ps_if (pt_cmpR op_isN (pv 2) pe_non (nomark _)) (pss_one (ps_ret (pe_tup (pa_cons pe_int (pa_cons (pv 3) pa_nil))))) pss_nil)
        (pss_cons (ps_set (i := 5) sc__law_told.nd rfl (Or.inl rfl) (pe_lst (pa_cons (pe_callB call_isiX (by rfl) T.isi bIsi (pa_cons (pv 2) (pa_cons (pe_glob (v := .ref L.c_NoSigns) (by rfl) L.g_NoSigns rfl) pa_nil))) (pa_cons (pe_callB call_isiX (by rfl) T.isi bIsi (pa_cons (pv 2) (pa_cons (pe_glob (v := .ref L.c_TooMany) (by rfl) L.g_TooMany rfl) pa_nil))) (pa_cons (pe_callB call_isiX (by rfl) T.isi bIsi (pa_cons (pv 2) (pa_cons (pe_glob (v := .ref L.c_NoWord) (by rfl) L.g_NoWord rfl) pa_nil))) pa_nil)))))
        (pss_cons (ps_if (PW.pt (pw_or (pt_val (pe_call (ok__law_others L) (hr.mono (by decide)) rfl L.a__law_others.g L.a__law_others.F.kp L.a__law_others.b .nil pass0 (pa_cons (pv 2) pa_nil))) (pw_or1 (pt_cmpR op_ne (pe_callB call_len_seq (by rfl) T.len PySem.boot_len (pa_cons (pe_comp rfl (blockOk_of (sc := defScope (top 41)) (N := ["_law_signs_here", "_law_words_here", "_law_caught", "_law_band", "_law_e", "_law_some"]) (ys := []) (ix := []) rfl rfl (by decide +kernel)) (pi_list (pv 5)) (fun _ _ _ _ _ _ => pts_one (pt_val (pv 0))) (fun _ _ _ _ _ _ => (pv 0))) pa_nil)) pe_int (nomark _))))) (pss_one (ps_ret (pe_tup (pa_cons pe_int (pa_cons pe_int pa_nil))))) pss_nil)
        (pss_cons (ps_if (pt_val (pe_ix ix_list (pv 5) pe_int (fun _ _ => rfl))) (pss_one (ps_ret (pe_tup (pa_cons pe_int (pa_cons pe_int pa_nil))))) pss_nil)
        (pss_cons (ps_if (pt_val (pe_ix ix_list (pv 5) pe_int (fun _ _ => rfl))) (pss_one (ps_ret (pe_tup (pa_cons pe_int (pa_cons (pe_xfld (pv 2) rfl) pa_nil))))) pss_nil)
        (pss_one (ps_ret (pe_tup (pa_cons pe_int (pa_cons (pe_xfld (pv 2) rfl) pa_nil))))))))))))), ?_⟩
    refine ⟨_, rfl, _, rfl, fun x dx nx ndx nex => ?_⟩
    have sm : Same H (upd (upd H dx (.own x)) x (.ins L.c_Band dx [])) := made_same nx ndx
    rcases hin with ⟨g, ws, hv, hx, sg, hl, hw, k⟩ | ⟨N, k⟩ | ⟨g, hv, sg, hxs, h6, k⟩ | ⟨g, i, x0, hv, sg, hxs, h6, hx0, N, hb, k⟩
    · subst hv hx
      refine .inl ⟨x, dx, g, a, ws, rfl, upd_same, sm.seq hS, sg, hl, hw, fun ss ls H1 B kp => ⟨rfl, ?_⟩⟩
      have s1 : Same H H1 := fun b o e => kp b o (sm _ _ e) (ne_of_none e nx)
      refine ⟨_, rfl, rfl, true, eqSelf _, iteT ?_⟩
      refine ⟨_, rfl, by show 2 ≤ sizeLine; decide, fun p hp => k p x ss ls _ (s1.trans (Same.upd hp)) upd_same (B.same ((newX_in sm nx).trans (newIn_same (Same.upd hp))))⟩
    · refine .inr (.inl ⟨x, a, v, rfl, N.same sm, fun H1 s1 => ?_⟩)
      have s01 := sm.trans s1
      refine ⟨L.c_NoSigns, _, rfl, L.U_NoSigns, fun e he => ?_⟩
      have hE : (upd H1 e (XC e L.c_NoSigns none)) e = some (XC e L.c_NoSigns none) := upd_same
      have s2 := s01.trans (Same.upd (o := XC e L.c_NoSigns none) he)
      generalize upd H1 e (XC e L.c_NoSigns none) = H2 at hE s2 ⊢
      have hD : ∀ d', (none : Option Addr) = some d' → ∃ fs, H2 d' = some (.xd fs) := fun d' z => by cases z
      refine ⟨_, rfl, rfl, false, refNon _, iteF ?_⟩
      refine ⟨_, rfl, _, _, true, rfl, .exc hE hD L.U_NoSigns L.Y_NoSigns kit_same, _, rfl, _, _, false, rfl, .exc hE hD L.U_NoSigns L.Y_NoSigns (kit_diff L.U_NoSigns L.U_TooMany L.XT (by decide +kernel) (by decide +kernel)), _, rfl, _, _, false, rfl, .exc hE hD L.U_NoSigns L.Y_NoSigns (kit_diff L.U_NoSigns L.U_NoWord L.XT (by decide +kernel) (by decide +kernel)), by show 3 ≤ sizeLine; decide, fun lo hlo => ?_⟩
      have s3 : Same H2 (upd H2 lo (.lst [.bl true, .bl false, .bl false])) := Same.upd hlo
      have h3 : (upd H2 lo (.lst [.bl true, .bl false, .bl false])) lo = some (.lst [.bl true, .bl false, .bl false]) := upd_same
      generalize upd H2 lo (.lst [.bl true, .bl false, .bl false]) = H3 at s3 h3
      refine ⟨_, rfl, e, L.c_NoSigns, none, _, rfl, s3 _ _ hE, (fun d' z => by cases z), L.U_NoSigns, L.Y_NoSigns, .inl rfl, fun H4 s4 => ⟨false, rfl, iteF ?_⟩⟩
      refine ⟨_, rfl, lo, rfl, ⟨_, SqL.of (s4 _ _ h3)⟩, fun lc hlc => ?_⟩
      refine comp_pure (fun v => match v with | .bl b => b | _ => false) (fun v => v) (itIs_list K lo [.bl true, .bl false, .bl false]) hlc (by show 3 ≤ sizeLine; decide) (fun H' s' => SqL.of (s' _ _ (s4 _ _ h3))) (fun z H5 Q' hz s5 qq => ?_) (fun z H5 Q' hz _ s5 qq => ⟨_, rfl, qq H5 (Same.refl _)⟩) (fun H5 s5 h5 => ?_)
      · obtain ⟨b, rfl⟩ : ∃ b, z = .bl b := by
          rcases List.mem_cons.mp hz with e | hz
          · exact ⟨_, e⟩
          rcases List.mem_cons.mp hz with e | hz
          · exact ⟨_, e⟩
          · exact ⟨_, List.mem_singleton.mp hz⟩
        exact ⟨_, rfl, b, rfl, qq H5 (Same.refl _)⟩
      refine ⟨lc, _, rfl, .inl (SqL.of h5), rfl, false, rfl, iteF ?_⟩
      have h5o := s5 _ _ (s4 _ _ h3)
      refine ⟨_, rfl, lo, _, _, _, rfl, rfl, SqL.of h5o, rfl, true, rfl, iteT ?_⟩
      exact ⟨by show 2 ≤ sizeLine; decide, fun p hp => k p _ ((s2.trans s3).trans ((s4.trans s5).trans (Same.upd hp))) upd_same⟩
    · subst hv
      refine .inr (.inr ⟨x, a, g, xs, rfl, sg, sm.seq hS, hxl, fun v hv => (hxs v hv).imp id fun h => h.same sm, .inl ⟨h6, fun dd H1 s1 hd h1d => ?_⟩⟩)
      have s01 := sm.trans s1
      refine ⟨L.c_TooMany, _, rfl, L.U_TooMany, fun e he => ?_⟩
      have hE : (upd H1 e (XC e L.c_TooMany (some dd))) e = some (XC e L.c_TooMany (some dd)) := upd_same
      have hDd : (upd H1 e (XC e L.c_TooMany (some dd))) dd = some (.xd [("many", .int xs.length)]) := XC_ne he h1d _
      have s2 := s01.trans (Same.upd (o := XC e L.c_TooMany (some dd)) he)
      generalize upd H1 e (XC e L.c_TooMany (some dd)) = H2 at hE hDd s2 ⊢
      have hD : ∀ d', some dd = some d' → ∃ fs, H2 d' = some (.xd fs) := fun d' z => by
        cases z
        exact ⟨_, hDd⟩
      refine ⟨_, rfl, rfl, false, refNon _, iteF ?_⟩
      refine ⟨_, rfl, _, _, false, rfl, .exc hE hD L.U_TooMany L.Y_TooMany (kit_diff L.U_TooMany L.U_NoSigns L.XT (by decide +kernel) (by decide +kernel)), _, rfl, _, _, true, rfl, .exc hE hD L.U_TooMany L.Y_TooMany kit_same, _, rfl, _, _, false, rfl, .exc hE hD L.U_TooMany L.Y_TooMany (kit_diff L.U_TooMany L.U_NoWord L.XT (by decide +kernel) (by decide +kernel)), by show 3 ≤ sizeLine; decide, fun lo hlo => ?_⟩
      have s3 : Same H2 (upd H2 lo (.lst [.bl false, .bl true, .bl false])) := Same.upd hlo
      have h3 : (upd H2 lo (.lst [.bl false, .bl true, .bl false])) lo = some (.lst [.bl false, .bl true, .bl false]) := upd_same
      generalize upd H2 lo (.lst [.bl false, .bl true, .bl false]) = H3 at s3 h3
      refine ⟨_, rfl, e, L.c_TooMany, some dd, _, rfl, s3 _ _ hE, (fun d' z => let ⟨fs, h⟩ := hD d' z; ⟨fs, s3 _ _ h⟩), L.U_TooMany, L.Y_TooMany, .inr (.inl rfl), fun H4 s4 => ⟨false, rfl, iteF ?_⟩⟩
      refine ⟨_, rfl, lo, rfl, ⟨_, SqL.of (s4 _ _ h3)⟩, fun lc hlc => ?_⟩
      refine comp_pure (fun v => match v with | .bl b => b | _ => false) (fun v => v) (itIs_list K lo [.bl false, .bl true, .bl false]) hlc (by show 3 ≤ sizeLine; decide) (fun H' s' => SqL.of (s' _ _ (s4 _ _ h3))) (fun z H5 Q' hz s5 qq => ?_) (fun z H5 Q' hz _ s5 qq => ⟨_, rfl, qq H5 (Same.refl _)⟩) (fun H5 s5 h5 => ?_)
      · obtain ⟨b, rfl⟩ : ∃ b, z = .bl b := by
          rcases List.mem_cons.mp hz with e | hz
          · exact ⟨_, e⟩
          rcases List.mem_cons.mp hz with e | hz
          · exact ⟨_, e⟩
          · exact ⟨_, List.mem_singleton.mp hz⟩
        exact ⟨_, rfl, b, rfl, qq H5 (Same.refl _)⟩
      refine ⟨lc, _, rfl, .inl (SqL.of h5), rfl, false, rfl, iteF ?_⟩
      have s35 := s3.trans (s4.trans s5)
      have h5o := s5 _ _ (s4 _ _ h3)
      refine ⟨_, rfl, lo, _, _, _, rfl, rfl, SqL.of h5o, rfl, false, rfl, iteF ?_⟩
      refine ⟨_, rfl, lo, _, _, _, rfl, rfl, SqL.of h5o, rfl, true, rfl, iteT ?_⟩
      exact ⟨_, rfl, e, L.c_TooMany, L.c_BandError, dd, _, _, _, rfl, s35 _ _ hE, s35 _ _ hDd, L.U_TooMany, L.n_TooMany_many, by simp, by show 2 ≤ sizeLine; decide, fun p hp => k p _ (s2.trans (s35.trans (Same.upd hp))) upd_same⟩
    · subst hv
      refine .inr (.inr ⟨x, a, g, xs, rfl, sg, sm.seq hS, hxl, fun v hv => (hxs v hv).imp id fun h => h.same sm, .inr ⟨h6, i, x0, hx0, N.same sm, hb, fun dd H1 s1 hd h1d => ?_⟩⟩)
      have s01 := sm.trans s1
      refine ⟨L.c_NoWord, _, rfl, L.U_NoWord, fun e he => ?_⟩
      have hE : (upd H1 e (XC e L.c_NoWord (some dd))) e = some (XC e L.c_NoWord (some dd)) := upd_same
      have hDd : (upd H1 e (XC e L.c_NoWord (some dd))) dd = some (.xd [("number", .int (i : Nat))]) := XC_ne he h1d _
      have s2 := s01.trans (Same.upd (o := XC e L.c_NoWord (some dd)) he)
      generalize upd H1 e (XC e L.c_NoWord (some dd)) = H2 at hE hDd s2 ⊢
      have hD : ∀ d', some dd = some d' → ∃ fs, H2 d' = some (.xd fs) := fun d' z => by
        cases z
        exact ⟨_, hDd⟩
      refine ⟨_, rfl, rfl, false, refNon _, iteF ?_⟩
      refine ⟨_, rfl, _, _, false, rfl, .exc hE hD L.U_NoWord L.Y_NoWord (kit_diff L.U_NoWord L.U_NoSigns L.XT (by decide +kernel) (by decide +kernel)), _, rfl, _, _, false, rfl, .exc hE hD L.U_NoWord L.Y_NoWord (kit_diff L.U_NoWord L.U_TooMany L.XT (by decide +kernel) (by decide +kernel)), _, rfl, _, _, true, rfl, .exc hE hD L.U_NoWord L.Y_NoWord kit_same, by show 3 ≤ sizeLine; decide, fun lo hlo => ?_⟩
      have s3 : Same H2 (upd H2 lo (.lst [.bl false, .bl false, .bl true])) := Same.upd hlo
      have h3 : (upd H2 lo (.lst [.bl false, .bl false, .bl true])) lo = some (.lst [.bl false, .bl false, .bl true]) := upd_same
      generalize upd H2 lo (.lst [.bl false, .bl false, .bl true]) = H3 at s3 h3
      refine ⟨_, rfl, e, L.c_NoWord, some dd, _, rfl, s3 _ _ hE, (fun d' z => let ⟨fs, h⟩ := hD d' z; ⟨fs, s3 _ _ h⟩), L.U_NoWord, L.Y_NoWord, .inr (.inr rfl), fun H4 s4 => ⟨false, rfl, iteF ?_⟩⟩
      refine ⟨_, rfl, lo, rfl, ⟨_, SqL.of (s4 _ _ h3)⟩, fun lc hlc => ?_⟩
      refine comp_pure (fun v => match v with | .bl b => b | _ => false) (fun v => v) (itIs_list K lo [.bl false, .bl false, .bl true]) hlc (by show 3 ≤ sizeLine; decide) (fun H' s' => SqL.of (s' _ _ (s4 _ _ h3))) (fun z H5 Q' hz s5 qq => ?_) (fun z H5 Q' hz _ s5 qq => ⟨_, rfl, qq H5 (Same.refl _)⟩) (fun H5 s5 h5 => ?_)
      · obtain ⟨b, rfl⟩ : ∃ b, z = .bl b := by
          rcases List.mem_cons.mp hz with e | hz
          · exact ⟨_, e⟩
          rcases List.mem_cons.mp hz with e | hz
          · exact ⟨_, e⟩
          · exact ⟨_, List.mem_singleton.mp hz⟩
        exact ⟨_, rfl, b, rfl, qq H5 (Same.refl _)⟩
      refine ⟨lc, _, rfl, .inl (SqL.of h5), rfl, false, rfl, iteF ?_⟩
      have s35 := s3.trans (s4.trans s5)
      have h5o := s5 _ _ (s4 _ _ h3)
      refine ⟨_, rfl, lo, _, _, _, rfl, rfl, SqL.of h5o, rfl, false, rfl, iteF ?_⟩
      refine ⟨_, rfl, lo, _, _, _, rfl, rfl, SqL.of h5o, rfl, false, rfl, iteF ?_⟩
      exact ⟨_, rfl, e, L.c_NoWord, L.c_BandError, dd, _, _, _, rfl, s35 _ _ hE, s35 _ _ hDd, L.U_NoWord, L.n_NoWord_number, by simp, by show 2 ≤ sizeLine; decide, fun p hp => k p _ (s2.trans (s35.trans (Same.upd hp))) upd_same⟩
end
end K1

set_option Elab.async false
set_option linter.all false
set_option maxRecDepth 100000
set_option maxHeartbeats 4000000
namespace K1
open PySem L2 Bs Sx
section
variable {P : Program} {w : World} {K : PySem.W.Frag} {mg : Str → Option Value} {base : Heap}
def spLGood (K : PySem.W.Frag) (C : Addr) : Sp := fun vs H Q _ => ∃ (x a : Addr) (g : Str) (ws ss ls : List Str), vs = [.ref x, .str g, .ref a] ∧ BandAt C H x g ws ss ls ∧ SqL K H a (ws.map V.str) ∧ ws.length ≤ 100 ∧ (∀ w ∈ ws, w.length ≤ 100) ∧ ∀ H', Same H H' → Q (.bl true) H'
theorem sc__law_good : FnScope ["_law_band", "_law_signs_here", "_law_words_here", "_law_longest"] ["_law_band", "_law_signs_here", "_law_words_here"] (defScope (top 42)) := ⟨rfl, rfl, rfl, by decide +kernel, rfl, by decide +kernel, by decide +kernel⟩
theorem ok__law_good (L : Lk K mg) : FnOk P w K mg base CX0 2 L.f__law_good L.d__law_good ["_law_band", "_law_signs_here", "_law_words_here"] (spLGood K L.c_Band) := by
  have T := L.T
  refine L.a__law_good.F.ok sc__law_good (fun vs H Q E h => ?_) (fun cdv A outer s H vs Q E hr h => ?_)
  · obtain ⟨x, a, g, ws, ss, ls, rfl, _⟩ := h
    rfl
  · obtain ⟨x, a, g, ws, ss, ls, rfl, B, hS, hl, hwl, k⟩ := h
    have hu0 : (A.deeper (PyProof.Rows.envOfC "_law_good" (defScope (top 42)) s.heap.objs.size L.f__law_good cdv)).units < cLine := hr.units0
    refine ⟨_, (pss_cons (ps_if (PW.pt (pw_or (pt_not (pt_val (pe_callB call_isinst (by rfl) T.isi bIsi (pa_cons (pe_fld (pv 0) rfl) (pa_cons (pe_bltn (v := .ty "str") (by rfl) T.str bStr rfl) pa_nil))))) (pw_or (pt_cmpR op_ne (pe_fld (pv 0) rfl) (pv 1) (nomark _)) (pw_or1 (pt_not (pt_val (pe_callB call_isinst (by rfl) T.isi bIsi (pa_cons (pe_fld (pv 0) rfl) (pa_cons (pe_bltn (v := .ty "list") (by rfl) T.list bList rfl) pa_nil))))))))) (pss_one (ps_ret pe_bl)) pss_nil)
        (pss_cons (ps_set (i := 3) sc__law_good.nd rfl (Or.inl rfl) (pe_meth0 (pv 0) L.cl_Band.cl L.m_Band_longest.m (ok_Band_longest L) (hr.mono (by decide)) L.m_Band_longest.b .nil pass0))
        (pss_cons (ps_if (PW.pt (pw_or (pt_not (pt_val (pe_callB call_isinst (by rfl) T.isi bIsi (pa_cons (pv 3) (pa_cons (pe_bltn (v := .ty "int") (by rfl) T.int bInt rfl) pa_nil))))) (pw_or1 (pt_val (pe_callB call_isinst (by rfl) T.isi bIsi (pa_cons (pv 3) (pa_cons (pe_bltn (v := .ty "bool") (by rfl) T.bool bBool rfl) pa_nil))))))) (pss_one (ps_ret pe_bl)) pss_nil)
        (pss_one (ps_ret (pe_and (pe_cmpR (op_eqL hu0) (pe_fld (pv 0) rfl) (pv 2) (nomark _)) (pe_one (pe_cmpR op_eq (pv 3) (pe_callB (call_max1 rfl) (by rfl) T.max bMax' (pa_cons (pe_op op_cat (pe_lst (pa_cons pe_int pa_nil)) (pe_comp rfl (blockOk_of (sc := defScope (top 42)) (N := ["_law_band", "_law_signs_here", "_law_words_here", "_law_longest"]) (ys := []) (ix := []) rfl rfl (by decide +kernel)) (pi_list (pv 2)) (fun _ _ _ _ _ _ => pts_nil) (fun _ _ _ _ _ _ => (pe_callB call_len_str (by rfl) T.len PySem.boot_len (pa_cons (pv 0) pa_nil))))) pa_nil)) (nomark _))))))))), ?_⟩
    obtain ⟨⟨dx, b, d, q, mv, h1, h2, h3, h4, h5, h6⟩, _, _, _⟩ := id B
    refine ⟨_, rfl, x, L.c_Band, dx, _, _, rfl, h1, L.cl_Band.cl, L.cl_Band.n_signs, look_signs g b d q, _, _, _, true, rfl, TyOf.str g, rfl, true, rfl, iteF ?_⟩
    refine ⟨_, rfl, x, L.c_Band, dx, _, _, rfl, h1, L.cl_Band.cl, L.cl_Band.n_signs, look_signs g b d q, _, rfl, rfl, false, neSelf _, iteF ?_⟩
    refine ⟨_, rfl, x, L.c_Band, dx, _, _, rfl, h1, L.cl_Band.cl, L.cl_Band.n_barred, look_barred g b d q, _, _, _, true, rfl, TyOf.lst h2, rfl, true, rfl, iteF ?_⟩
    refine ⟨_, rfl, x, dx, _, rfl, h1, noF _ _ _ _ (by decide +kernel) (by decide +kernel) (by decide +kernel) (by decide +kernel), x, g, ws, ss, ls, rfl, B, by omega, fun w hw => by have := hwl w hw; omega, fun M H1 s1 hM => ?_⟩
    refine ⟨_, rfl, _, _, _, true, rfl, TyOf.int M, rfl, true, rfl, iteF ?_⟩
    refine ⟨_, rfl, _, _, _, false, rfl, TyOf.int M, rfl, false, rfl, iteF ?_⟩
    refine ⟨_, rfl, x, L.c_Band, dx, _, _, rfl, s1 _ _ h1, L.cl_Band.cl, L.cl_Band.n_barred, look_barred g b d q, _, rfl, b, a, _, _, rfl, rfl, SqL.of (s1 _ _ h2), s1.seq hS, flat_strs _, flat_strs _, true, congrArg V.bl (by rw [eqVs_strs, decide_eq_true rfl]), iteT ?_⟩
    refine ⟨_, rfl, by show 1 ≤ sizeLine; decide, fun l0 hl0 => ?_⟩
    have s2 := s1.trans (Same.upd (o := .lst [.int 0]) hl0)
    refine ⟨_, rfl, a, rfl, ⟨_, s2.seq hS⟩, fun lc hlc => ?_⟩
    refine comp_map (fun v => match v with | .str z => .int z.length | _ => .non) (itIs_list K a (ws.map V.str)) hlc (by rw [List.length_map]; exact small16 (by omega)) (fun H' s' => (s2.trans s').seq hS) (fun y H5 Q' hy s5 qq => ?_) (fun H5 s5 h5' => ?_)
    · obtain ⟨w, hw, rfl⟩ := List.mem_map.mp hy
      exact ⟨_, rfl, w, rfl, small16 (by have := hwl w hw; omega), qq H5 (Same.refl _)⟩
    have elen : (ws.map V.str).map (fun v => match v with | .str z => V.int z.length | _ => .non) = (ws.map fun (w : Str) => (w.length : Int)).map V.int := by
      rw [List.map_map, List.map_map]
      rfl
    rw [elen] at h5'
    refine ⟨l0, lc, _, _, rfl, rfl, s5 _ _ upd_same, h5', by rw [List.length_map, List.length_map]; exact small16 (by show 1 + ws.length ≤ _; omega), fun lm hlm => ?_⟩
    have ec : [V.int 0] ++ (ws.map fun (w : Str) => (w.length : Int)).map V.int = (0 :: ws.map fun (w : Str) => (w.length : Int)).map V.int := rfl
    rw [ec]
    refine ⟨lm, _, rfl, SqL.of upd_same, by simp, fun M' hM' hMx' => ?_⟩
    have eM : M = M' := Int.le_antisymm (hMx' M hM.1) (hM.2 M' hM')
    subst eM
    refine ⟨rfl, ?_⟩
    show Q (.bl (decide (V.int M = V.int M))) _
    rw [eqSelf]
    exact k _ ((s2.trans s5).trans (Same.upd hlm))
/-- what is due -/
def dueOf (r : Bool) (n : Nat) (os : List Int) : Int → Int → Prop := fun c v =>
  (r = false ∧ c = 1 ∧ v = 0) ∨ (r = true ∧ 6 < n ∧ c = 2 ∧ v = n) ∨ (r = true ∧ n ≤ 6 ∧ os ≠ [] ∧ c = 3 ∧ v ∈ os ∧ ∀ a ∈ os, v ≤ a) ∨ (r = true ∧ n ≤ 6 ∧ os = [] ∧ c = 0 ∧ v = 0)
def spLDue (K : PySem.W.Frag) : Sp := fun vs H Q _ => ∃ (r : Bool) (aw ao : Addr) (ys : List V) (os : List Int), vs = [.bl r, .ref aw, .ref ao] ∧ SqL K H aw ys ∧ SqL K H ao (os.map V.int) ∧ ys.length ≤ 1000 ∧ os.length ≤ 1000 ∧ ∀ (p : Addr) (c v : Int) (H' : Hp), Same H H' → H' p = some (.tup [.int c, .int v]) → dueOf r ys.length os c v → Q (.ref p) H'
theorem sc__law_due : FnScope ["_law_signs_right", "_law_words_here", "_law_odd"] ["_law_signs_right", "_law_words_here", "_law_odd"] (defScope (top 43)) := ⟨rfl, rfl, rfl, by decide +kernel, rfl, by decide +kernel, by decide +kernel⟩
theorem ok__law_due (L : Lk K mg) : FnOk P w K mg base CX0 1 L.f__law_due L.d__law_due ["_law_signs_right", "_law_words_here", "_law_odd"] (spLDue K) := by
  have T := L.T
  refine L.a__law_due.F.ok sc__law_due (fun vs H Q E h => ?_) (fun cdv A outer s H vs Q E hr h => ?_)
  · obtain ⟨r, aw, ao, ys, os, rfl, _⟩ := h
    rfl
  · obtain ⟨r, aw, ao, ys, os, rfl, hw, ho, hyl, hol, k⟩ := h
    have hu0 : (A.deeper (PyProof.Rows.envOfC "_law_due" (defScope (top 43)) s.heap.objs.size L.f__law_due cdv)).units < cLine := hr.units0
    refine ⟨_, (pss_cons (ps_if (pt_not (pt_val (pv 0))) (pss_one (ps_ret (pe_tup (pa_cons pe_int (pa_cons pe_int pa_nil))))) pss_nil)
        (pss_cons (ps_if (pt_cmpR op_gt (pe_callB call_len_seq (by rfl) T.len PySem.boot_len (pa_cons (pv 1) pa_nil)) pe_int (nomark _)) (pss_one (ps_ret (pe_tup (pa_cons pe_int (pa_cons (pe_callB call_len_seq (by rfl) T.len PySem.boot_len (pa_cons (pv 1) pa_nil)) pa_nil))))) pss_nil)
        (pss_cons (ps_if (pt_cmpR (op_neL hu0) (pv 2) (pe_lst pa_nil) (nomark _)) (pss_one (ps_ret (pe_tup (pa_cons pe_int (pa_cons (pe_callB (call_min1 rfl) (by rfl) T.min bMin (pa_cons (pv 2) pa_nil)) pa_nil))))) pss_nil)
        (pss_one (ps_ret (pe_tup (pa_cons pe_int (pa_cons pe_int pa_nil)))))))), ?_⟩
    cases r with
    | false =>
      refine ⟨_, rfl, false, rfl, iteT ?_⟩
      exact ⟨by show 2 ≤ sizeLine; decide, fun p hp => k p _ _ _ (Same.upd hp) upd_same (.inl ⟨rfl, rfl, rfl⟩)⟩
    | true =>
      refine ⟨_, rfl, true, rfl, iteF ?_⟩
      by_cases h6 : 6 < ys.length
      · refine ⟨_, rfl, aw, _, rfl, .inl hw, _, _, rfl, rfl, true, congrArg V.bl (decide_eq_true (by omega)), iteT ?_⟩
        exact ⟨_, rfl, aw, _, rfl, .inl hw, by show 2 ≤ sizeLine; decide, fun p hp => k p _ _ _ (Same.upd hp) upd_same (.inr (.inl ⟨rfl, h6, rfl, rfl⟩))⟩
      refine ⟨_, rfl, aw, _, rfl, .inl hw, _, _, rfl, rfl, false, congrArg V.bl (decide_eq_false (by omega)), iteF ?_⟩
      refine ⟨_, rfl, Nat.zero_le _, fun le hle => ?_⟩
      have s1 : Same H (upd H le (.lst [])) := Same.upd hle
      cases os with
      | nil =>
        refine ⟨ao, le, _, _, rfl, rfl, s1.seq ho, SqL.of upd_same, rfl, rfl, false, rfl, iteF ?_⟩
        exact ⟨by show 2 ≤ sizeLine; decide, fun p hp => k p _ _ _ (s1.trans (Same.upd hp)) upd_same (.inr (.inr (.inr ⟨rfl, by omega, rfl, rfl, rfl⟩)))⟩
      | cons o os =>
        refine ⟨ao, le, _, _, rfl, rfl, s1.seq ho, SqL.of upd_same, flat_ints _, rfl, true, rfl, iteT ?_⟩
        refine ⟨_, rfl, ao, _, rfl, s1.seq ho, by simp, fun M hM hMx => ?_⟩
        exact ⟨by show 2 ≤ sizeLine; decide, fun p hp => k p _ _ _ (s1.trans (Same.upd hp)) upd_same (.inr (.inr (.inl ⟨rfl, by omega, by simp, rfl, hM, hMx⟩)))⟩
end
end K1

set_option Elab.async false
set_option linter.all false
set_option maxRecDepth 100000
set_option maxHeartbeats 4000000
namespace K1
open PySem L2 Bs Sx
section
variable {P : Program} {w : World} {K : PySem.W.Frag} {mg : Str → Option Value} {base : Heap}
theorem sc__law_cell : FnScope ["_law_script", "_law_place"] ["_law_script", "_law_place"] (defScope (top 33)) := ⟨rfl, rfl, rfl, by decide +kernel, rfl, by decide +kernel, by decide +kernel⟩
theorem ok__law_cell (L : Lk K mg) : FnOk P w K mg base CX0 1 L.f__law_cell L.d__law_cell ["_law_script", "_law_place"] (spCell K) := by
  have T := L.T
  refine L.a__law_cell.F.ok sc__law_cell (fun vs H Q E h => ?_) (fun cdv A outer s H vs Q E hr h => ?_)
  · obtain ⟨a, ns, p, rfl, _⟩ := h
    rfl
  · obtain ⟨a, ns, p, rfl, hS, h0, k⟩ := h
    refine ⟨_, (pss_cons (ps_if (pt_cmpR op_ge (pv 1) (pe_callB call_len_seq (by rfl) T.len PySem.boot_len (pa_cons (pv 0) pa_nil)) (nomark _)) (pss_one (ps_ret pe_int)) pss_nil)
        (pss_one (ps_ret (pe_ix ix_list (pv 0) (pv 1) (fun _ _ => rfl))))), ?_⟩
    refine ⟨_, rfl, _, rfl, a, _, rfl, .inl hS, _, _, rfl, rfl, _, rfl, ?_⟩
    rw [List.length_map]
    by_cases h : (ns.length : Int) ≤ p
    · refine iteY (by simpa using h) ?_
      have e : cellN ns p = 0 := by
        unfold cellN
        rw [List.getD_eq_getElem?_getD, List.getElem?_eq_none (by omega)]
        rfl
      rw [e] at k
      exact k
    · refine iteN (by simpa using h) ?_
      have hlt : p.toNat < ns.length := by omega
      have e1 : ns[p.toNat]? = some (cellN ns p) := by
        unfold cellN
        rw [List.getD_eq_getElem?_getD]
        simp [hlt]
      have e2 : atI (ns.map V.int) p = some (.int (cellN ns p)) := by
        have := atI_nat (xs := ns.map V.int) (j := p.toNat) (v := .int (cellN ns p)) (by rw [List.getElem?_map, e1]; rfl)
        rwa [show ((p.toNat : Nat) : Int) = p by omega] at this
      exact ⟨_, rfl, _, rfl, a, _, _, _, rfl, rfl, hS, e2, k⟩
theorem sc__law_draw : FnScope ["_law_cell_here", "_law_turn", "_law_many", "_law_digits", "_law_step", "_law_number"] ["_law_cell_here", "_law_turn", "_law_many"] (defScope (top 34)) := ⟨rfl, rfl, rfl, by decide +kernel, rfl, by decide +kernel, by decide +kernel⟩
theorem ok__law_draw (L : Lk K mg) : FnOk P w K mg base CX0 1 L.f__law_draw L.d__law_draw ["_law_cell_here", "_law_turn", "_law_many"] spDraw := by
  have T := L.T
  refine L.a__law_draw.F.ok sc__law_draw (fun vs H Q E h => ?_) (fun cdv A outer s H vs Q E hr h => ?_)
  · obtain ⟨c, t, m, rfl, _⟩ := h
    rfl
  · obtain ⟨c, t, m, rfl, ht0, ht1, hm, k⟩ := h
    refine ⟨_, (pss_cons (ps_if (PW.pt (pw_and (pt_cmpR op_eq (pe_op op_mod (pv 0) pe_int) pe_int (nomark _)) (pw_and1 (pt_cmpR op_gt (pv 0) (pe_op op_pow pe_int pe_int) (nomark _))))) (pss_cons (ps_set (i := 3) sc__law_draw.nd rfl (Or.inl rfl) (pe_op op_fdiv (pv 0) pe_int))
        (pss_cons (ps_for PassesOwn.never rfl (pi_range1 rfl T.range (pa_cons (pv 1) pa_nil)) (pg_name (i := 4) sc__law_draw.nd rfl (Or.inl rfl)) (pss_one (ps_set (i := 3) sc__law_draw.nd rfl (Or.inl rfl) (pe_op op_fdiv (pv 3) pe_int))))
        (pss_one (ps_ret (pe_op op_mod (pe_op op_mod (pv 3) pe_int) (pv 2)))))) pss_nil)
        (pss_cons (ps_set (i := 5) sc__law_draw.nd rfl (Or.inl rfl) (pe_op op_add (pe_op op_add (pe_op op_mod (pv 0) pe_int) (pe_op op_mul pe_int (pv 1))) pe_int))
        (pss_one (ps_ret (pe_op op_mod (pe_op op_mod (pe_op op_add (pe_op op_mod (pe_op op_mul (pv 5) (pv 5)) pe_int) (pe_op op_fdiv (pv 5) pe_int)) pe_int) (pv 2)))))), ?_⟩
    have rest : tSeq (tAsg (tOp (rI0 fun i j => .int (i + j)) (tOp (rI0 fun i j => .int (i + j)) (tOp (rI (fun _ j => 0 < j) fun i j => .int (i % j)) (tVar 0) (tC (.int 2147483629))) (tOp (rI CMul fun i j => .int (i * j)) (tC (.int 1009)) (tVar 1))) (tC (.int 17))) (gName 5))
        (tRet (tOp (rI (fun _ j => 0 < j) fun i j => .int (i % j)) (tOp (rI (fun _ j => 0 < j) fun i j => .int (i % j)) (tOp (rI0 fun i j => .int (i + j)) (tOp (rI (fun _ j => 0 < j) fun i j => .int (i % j)) (tOp (rI CMul fun i j => .int (i * j)) (tVar 5) (tVar 5)) (tC (.int 999999937))) (tOp (rI CDiv fun i j => .int (i / j)) (tVar 5) (tC (.int 65536)))) (tC (.int 1000003))) (tVar 2)))
        { nx := fun _ H' => Q .non H', rt := Q } [some (.int c), some (.int t), some (.int m), none, none, none] H := by
      refine ⟨_, rfl, _, _, rfl, rfl, (by show (0 : Int) < 2147483629; decide), _, rfl, _, _, rfl, rfl, .inl ⟨by decide, by decide⟩, _, _, rfl, rfl, _, _, rfl, rfl, ?_⟩
      refine ⟨_, rfl, _, rfl, _, _, rfl, rfl, .inl ⟨?_, ?_⟩, _, _, rfl, rfl, (by show (0 : Int) < 999999937; decide), _, rfl, _, _, rfl, rfl, ⟨by decide, by decide⟩, _, _, rfl, rfl, _, _, rfl, rfl, (by show (0 : Int) < 1000003; decide), _, rfl, _, _, rfl, rfl, hm, k _ (Int.emod_nonneg _ (by omega)) (Int.emod_lt_of_pos _ hm)⟩
      · have := Int.emod_nonneg c (show (2147483629 : Int) ≠ 0 by decide)
        omega
      · have := Int.emod_lt_of_pos c (show (0 : Int) < 2147483629 by decide)
        omega
    refine ⟨_, rfl, _, _, rfl, rfl, (by show (0 : Int) < 2; decide), rfl, _, rfl, ?_⟩
    refine ite2 (fun _ => ?_) (fun _ => iteF rest)
    refine ⟨_, rfl, _, _, rfl, rfl, ⟨by decide, by decide, by decide⟩, _, _, rfl, rfl, _, rfl, ?_⟩
    refine ite2 (fun _ => ?_) (fun _ => rest)
    refine ⟨_, rfl, _, _, rfl, rfl, ⟨by decide, by decide⟩, ?_⟩
    refine ⟨_, rfl, _, rfl, by omega, by omega, for_range (lo := 0) (n := t.toNat) (fun i σ H2 => H2 = H ∧ ∃ dg v4, σ = [some (.int c), some (.int t), some (.int m), some (.int dg), v4, none]) ⟨rfl, _, none, rfl⟩ ?_ ?_⟩
    · rintro i σ H2 hi ⟨rfl, dg, v4, rfl⟩
      exact ⟨_, rfl, _, _, rfl, rfl, ⟨by decide, by decide⟩, rfl, _, _, rfl⟩
    · rintro σ H2 ⟨rfl, dg, v4, rfl⟩
      exact ⟨_, rfl, _, _, rfl, rfl, (by show (0 : Int) < 4999; decide), _, rfl, _, _, rfl, rfl, hm, k _ (Int.emod_nonneg _ (by omega)) (Int.emod_lt_of_pos _ hm)⟩
theorem sc__law_signs : FnScope ["_law_cell_here", "_law_pool", "_law_found", "_law_turn", "_law_sign"] ["_law_cell_here"] (defScope (top 35)) := ⟨rfl, rfl, rfl, by decide +kernel, rfl, by decide +kernel, by decide +kernel⟩
theorem ok__law_signs (L : Lk K mg) : FnOk P w K mg base CX0 2 L.f__law_signs L.d__law_signs ["_law_cell_here"] spSigns := by
  have T := L.T
  refine L.a__law_signs.F.ok sc__law_signs (fun vs H Q E h => ?_) (fun cdv A outer s H vs Q E hr h => ?_)
  · obtain ⟨c, rfl, _⟩ := h
    rfl
  · obtain ⟨c, rfl, k⟩ := h
    refine ⟨_, pss_seed (i := 1) sc__law_signs.nd rfl rfl (pss_cons1 (PS.one1 (ps_set (i := 2) sc__law_signs.nd rfl (Or.inl rfl) pe_str))
      (pss_cons1 (ps_for1 PassesOwn.never rfl (pi_range1 rfl T.range (pa_cons (pe_op op_add pe_int (pe_op op_mod (pv 0) pe_int)) pa_nil)) (pg_name (i := 3) sc__law_signs.nd rfl (Or.inl rfl))
        (pss_signs (a := 1) (b := 4) (c := 2) sc__law_signs.nd rfl rfl rfl rfl rfl rfl (pe_call (ok__law_draw L) (hr.mono (by decide)) rfl L.a__law_draw.g L.a__law_draw.F.kp L.a__law_draw.b .nil pass0 (pa_cons (pe_op op_fdiv (pv 0) pe_int) (pa_cons (pv 3) (pa_cons (pe_callB call_len_str (by rfl) T.len PySem.boot_len (pa_cons (pv 1) pa_nil)) pa_nil)))) rfl (fun _ _ => rfl)))
      (pss_one1 (PS.one1 (ps_ret (pv 2)))))), ?_⟩
    have hc3 := Int.emod_nonneg c (show (3 : Int) ≠ 0 by decide)
    have hc4 := Int.emod_lt_of_pos c (show (0 : Int) < 3 by decide)
    refine ⟨_, rfl, _, _, rfl, rfl, (by show (0 : Int) < 3; decide), _, _, rfl, rfl, _, rfl, by omega, by omega, ?_⟩
    refine for_range (lo := 0) (n := (2 + c % 3).toNat) (fun i σ H2 => Same H H2 ∧ ∃ pool found v3 v4, σ = [some (.int c), some (.str pool), some (.str found), v3, v4] ∧ Drawn i pool found) ⟨Same.refl _, poolS, "", none, none, rfl, Drawn.zero (by decide +kernel)⟩ ?_ ?_
    · rintro i σ H2 hi ⟨s2, pool, found, v3, v4, rfl, D⟩
      have hpl := D.pl
      have hfl := D.fl
      refine ⟨pool, found, rfl, rfl, ?_⟩
      refine ⟨_, rfl, _, _, rfl, rfl, ⟨by decide, by decide⟩, _, rfl, _, rfl, pool, rfl, small16 (by omega), c / 3, 0 + (i : Int), pool.length, rfl, by omega, by omega, by omega, fun dd h0 h1 => ?_⟩
      have hd : dd.toNat < (ch pool).length := by rw [len_ch]; omega
      have e1 : (ch pool)[dd.toNat]? = some (ch pool)[dd.toNat] := by simp [hd]
      have e2 := atI_nat e1
      rw [show ((dd.toNat : Nat) : Int) = dd by omega] at e2
      refine ⟨dd, _, rfl, by omega, by omega, e2, s2, _, _, _, _, rfl, ?_⟩
      exact D.step (by decide +kernel) (List.getElem_mem hd)
    · rintro σ H2 ⟨s2, pool, found, v3, v4, rfl, D⟩
      exact ⟨_, rfl, k found H2 (D.signs (by omega) (by omega)) s2⟩
end
end K1

set_option Elab.async false
set_option linter.all false
set_option maxRecDepth 100000
set_option maxHeartbeats 4000000
namespace K1
open PySem L2 Bs Sx
section
variable {P : Program} {w : World} {K : PySem.W.Frag} {mg : Str → Option Value} {base : Heap}
theorem sc__law_word : FnScope ["_law_cell_here", "_law_signs_here", "_law_long"] ["_law_cell_here", "_law_signs_here"] (defScope (top 36)) := ⟨rfl, rfl, rfl, by decide +kernel, rfl, by decide +kernel, by decide +kernel⟩
theorem ok__law_word (L : Lk K mg) : FnOk P w K mg base CX0 2 L.f__law_word L.d__law_word ["_law_cell_here", "_law_signs_here"] spWord := by
  have T := L.T
  refine L.a__law_word.F.ok sc__law_word (fun vs H Q E h => ?_) (fun cdv A outer s H vs Q E hr h => ?_)
  · obtain ⟨c, g, rfl, _⟩ := h
    rfl
  · obtain ⟨c, g, rfl, hg1, hg2, k⟩ := h
    refine ⟨_, (pss_cons (ps_set (i := 2) sc__law_word.nd rfl (Or.inl rfl) (pe_ix ix_list (pe_lst (pa_cons pe_int (pa_cons pe_int (pa_cons pe_int (pa_cons pe_int (pa_cons pe_int (pa_cons pe_int (pa_cons pe_int (pa_cons pe_int pa_nil))))))))) (pe_call (ok__law_draw L) (hr.mono (by decide)) rfl L.a__law_draw.g L.a__law_draw.F.kp L.a__law_draw.b .nil pass0 (pa_cons (pv 0) (pa_cons pe_int (pa_cons pe_int pa_nil)))) (fun _ _ => rfl)))
        (pss_one (ps_ret (pe_bm PySem.F.plainAttrs_str PySem.F.slot_str_join PySem.F.type_str_join mt_join pe_str (pa_cons (pe_comp rfl (blockOk_of (sc := defScope (top 36)) (N := ["_law_cell_here", "_law_signs_here", "_law_long"]) (ys := ["_law_signs_here", "_law_cell_here"]) (ix := [1, 0]) rfl rfl (by decide +kernel)) (pi_range1 rfl T.range (pa_cons (pv 2) pa_nil)) (fun _ _ _ _ _ _ => pts_nil) (fun _ _ _ _ _ _ => (pe_ix ix_str (pv 1) (pe_call (ok__law_draw L) (hr.mono (by decide)) rfl L.a__law_draw.g L.a__law_draw.F.kp L.a__law_draw.b .nil pass0 (pa_cons (pv 2) (pa_cons (pe_op op_add pe_int (pe_op op_mul pe_int (pv 0))) (pa_cons (pe_callB call_len_str (by rfl) T.len PySem.boot_len (pa_cons (pv 1) pa_nil)) pa_nil)))) (fun _ _ => rfl)))) pa_nil))))), ?_⟩
    refine ⟨by decide, fun p hp => ?_⟩
    refine ⟨_, rfl, c, 5, 8, rfl, by decide, by decide, by decide, fun d h0 h1 => ?_⟩
    obtain ⟨n, hn, n1, n2⟩ := longs d h0 h1
    refine ⟨p, _, d, _, rfl, rfl, SqL.of upd_same, hn, ?_⟩
    refine ⟨rfl, _, rfl, n, rfl, by omega, by omega, fun l hl => ?_⟩
    refine comp_rel (fun y => ∃ t, y = .str t ∧ ∃ cc, t = ⟨#[cc]⟩ ∧ cc ∈ ch g) (itIs_range 0 n.toNat) hl (by rw [List.length_map, List.length_range]; exact small16 (by omega)) (fun _ _ => trivial) (fun x H3 Q' hx s3 q => ?_) (fun ys H' s' hlen hR hl2 => ?_)
    · obtain ⟨i, hi, rfl⟩ := List.mem_map.mp hx
      have hi' : i < n.toNat := List.mem_range.mp hi
      refine ⟨_, rfl, _, rfl, _, rfl, _, _, rfl, rfl, .inl ⟨by decide, by decide⟩, _, _, rfl, rfl, _, rfl, g, rfl, small16 (by omega), c, 11 + 7 * (0 + (i : Int)), g.length, rfl, by omega, by omega, by omega, fun dd h0 h1 => ?_⟩
      have hd : dd.toNat < (ch g).length := by rw [len_ch]; omega
      have e1 : (ch g)[dd.toNat]? = some (ch g)[dd.toNat] := by simp [hd]
      have e2 := atI_nat e1
      rw [show ((dd.toNat : Nat) : Int) = dd by omega] at e2
      exact ⟨g, dd, _, rfl, rfl, small16 (by omega), e2, q _ H3 ⟨_, rfl, _, rfl, List.getElem_mem hd⟩ (Same.refl _)⟩
    · obtain ⟨ts, rfl, hts⟩ := strs_of hR
      rw [List.length_map, List.length_map, List.length_range] at hlen
      have hsum : (ts.map (·.length)).sum = ts.length := by
        clear hlen hl2 hR
        induction ts with
        | nil => rfl
        | cons t ts ih =>
          obtain ⟨cc, rfl, _⟩ := hts t (List.mem_cons_self ..)
          rw [List.map_cons, List.sum_cons, ih fun t h => hts t (List.mem_cons_of_mem _ h), List.length_cons]
          show 1 + ts.length = _
          omega
      refine ⟨_, l, ts, rfl, rfl, SqL.of hl2, ?_, ?_⟩
      · rw [hsum]
        show ts.length + ts.length * 0 ≤ 16777216
        omega
      · exact k _ H' (word_join (by decide +kernel) (by omega) (by omega) hts) ((Same.upd hp).trans s')
theorem sc__law_words : FnScope ["_law_script", "_law_at", "_law_signs_here", "_law_most", "_law_found", "_law_k", "_law_cell_here", "_law_word_here"] ["_law_script", "_law_at", "_law_signs_here", "_law_most"] (defScope (top 37)) := ⟨rfl, rfl, rfl, by decide +kernel, rfl, by decide +kernel, by decide +kernel⟩
theorem ok__law_words (L : Lk K mg) : FnOk P w K mg base CX0 3 L.f__law_words L.d__law_words ["_law_script", "_law_at", "_law_signs_here", "_law_most"] (spWords K) := by
  have T := L.T
  refine L.a__law_words.F.ok sc__law_words (fun vs H Q E h => ?_) (fun cdv A outer s H vs Q E hr h => ?_)
  · obtain ⟨a, ns, p, g, m, rfl, _⟩ := h
    rfl
  · obtain ⟨a, ns, p, g, m, rfl, hS, hp, hm0, hm1, hg1, hg2, k⟩ := h
    refine ⟨_, (pss_cons (ps_set (i := 4) sc__law_words.nd rfl (Or.inl rfl) (pe_lst pa_nil))
        (pss_cons (ps_for PassesOwn.never rfl (pi_range1 rfl T.range (pa_cons (pe_op op_mod (pe_call (ok__law_cell L) (hr.mono (by decide)) rfl L.a__law_cell.g L.a__law_cell.F.kp L.a__law_cell.b .nil pass0 (pa_cons (pv 0) (pa_cons (pv 1) pa_nil))) (pe_op op_add (pv 3) pe_int)) pa_nil)) (pg_name (i := 5) sc__law_words.nd rfl (Or.inl rfl)) (pss_cons (ps_set (i := 6) sc__law_words.nd rfl (Or.inl rfl) (pe_call (ok__law_cell L) (hr.mono (by decide)) rfl L.a__law_cell.g L.a__law_cell.F.kp L.a__law_cell.b .nil pass0 (pa_cons (pv 0) (pa_cons (pe_op op_add (pe_op op_add (pv 1) pe_int) (pv 5)) pa_nil))))
        (pss_cons (ps_set (i := 7) sc__law_words.nd rfl (Or.inl rfl) (pe_call (ok__law_word L) (hr.mono (by decide)) rfl L.a__law_word.g L.a__law_word.F.kp L.a__law_word.b .nil pass0 (pa_cons (pv 6) (pa_cons (pv 2) pa_nil))))
        (pss_cons (ps_if (PW.pt (pw_and (pt_cmpR op_gt (pv 5) pe_int (nomark _)) (pw_and1 (pt_cmpR op_eq (pe_op op_mod (pv 6) pe_int) pe_int (nomark _))))) (pss_one (ps_set (i := 7) sc__law_words.nd rfl (Or.inl rfl) (pe_slice sl_str (pe_op op_add_str (pe_slice sl_str (pe_ix ix_list (pv 4) (pe_un un_neg pe_int) (fun _ _ => rfl)) (po_some pe_int) po_none) (pv 7)) po_none (po_some pe_int)))) pss_nil)
        (pss_cons (ps_if (PW.pt (pw_and (pt_cmpR op_gt (pv 5) pe_int (nomark _)) (pw_and1 (pt_cmpR op_eq (pe_op op_mod (pv 6) pe_int) pe_int (nomark _))))) (pss_one (ps_set (i := 7) sc__law_words.nd rfl (Or.inl rfl) (pe_ix ix_list (pv 4) pe_int (fun _ _ => rfl)))) pss_nil)
        (pss_one (ps_expr (pe_bm PySem.F.plainAttrs_list PySem.F.slot_list_append PySem.F.type_list_append mt_append (pv 4) (pa_cons (pv 7) pa_nil)))))))))
        (pss_one (ps_ret (pv 4))))), ?_⟩
    refine ⟨Nat.zero_le _, fun l hl => ?_⟩
    have s0 : Same H (upd H l (.lst [])) := Same.upd hl
    have hq := Int.emod_nonneg (cellN ns p) (show m + 1 ≠ 0 by omega)
    have hq2 := Int.emod_lt_of_pos (cellN ns p) (show 0 < m + 1 by omega)
    refine ⟨_, rfl, _, rfl, a, ns, p, rfl, s0.seq hS, hp, _, rfl, _, _, rfl, rfl, _, _, rfl, rfl, (by show 0 < m + 1; omega), _, rfl, by omega, by omega, ?_⟩
    refine for_range (lo := 0) (n := (cellN ns p % (m + 1)).toNat) (fun i σ H2 => ∃ (ws : List Str) (v5 v6 v7 : Option V), σ = [some (.ref a), some (.int p), some (.str g), some (.int m), some (.ref l), v5, v6, v7] ∧ Same H H2 ∧ H2 l = some (.lst (ws.map V.str)) ∧ ws.length = i ∧ ∀ w ∈ ws, Word g w)
      ⟨[], none, none, none, rfl, s0, upd_same, rfl, (fun w h => nomatch h)⟩ ?_ ?_
    · rintro i σ H2 hi ⟨ws, v5, v6, v7, rfl, s2, h2, hwl, hws⟩
      refine ⟨_, rfl, _, rfl, _, _, rfl, rfl, _, rfl, _, _, rfl, rfl, a, ns, _, rfl, s2.seq hS, by omega, ?_⟩
      generalize cellN ns (p + 1 + (0 + (i : Int))) = cc
      refine ⟨_, rfl, _, rfl, cc, g, rfl, hg1, hg2, fun wd H3 hwd s3 => ?_⟩
      have h3 := s3 _ _ h2
      have s03 : Same H H3 := s2.trans s3
      -- the end of the turn
      have fin : ∀ (wd : Str), Word g wd → tDrop (tBM K "list" rAppend (tVar 4) (tCons (tVar 7) tNil)) { nx := fun σ H2 => ∃ (ws : List Str) (v5 v6 v7 : Option V), σ = [some (.ref a), some (.int p), some (.str g), some (.int m), some (.ref l), v5, v6, v7] ∧ Same H H2 ∧ H2 l = some (.lst (ws.map V.str)) ∧ ws.length = i + 1 ∧ ∀ w ∈ ws, Word g w, rt := Q, ct := fun σ H2 => ∃ (ws : List Str) (v5 v6 v7 : Option V), σ = [some (.ref a), some (.int p), some (.str g), some (.int m), some (.ref l), v5, v6, v7] ∧ Same H H2 ∧ H2 l = some (.lst (ws.map V.str)) ∧ ws.length = i + 1 ∧ ∀ w ∈ ws, Word g w }
          [some (.ref a), some (.int p), some (.str g), some (.int m), some (.ref l), some (.int (0 + (i : Int))), some (.int cc), some (.str wd)] H3 := by
        intro wd hwd
        refine ⟨_, rfl, .inl ⟨rfl, _, SqL.of h3⟩, _, rfl, l, _, _, rfl, rfl, h3, by rw [List.length_map]; exact small1000 (by omega), ?_⟩
        refine ⟨ws ++ [wd], _, _, _, rfl, fun b o e => ?_, ?_, by simp [hwl], fun w hw => ?_⟩
        · rw [upd_ne (ne_of_none e hl)]
          exact s03 _ _ e
        · rw [upd_same, List.map_append]
          rfl
        · rcases List.mem_append.mp hw with z | z
          · exact hws w z
          · have : w = wd := by simpa using z
            subst this
            exact hwd
      have second : ∀ (wd : Str), Word g wd → tSeq (tIfS (tAnd (tTest (tOp (rI0 fun i j => .bl (decide (j < i))) (tVar 5) (tC (.int 0)))) (tTest (tOp rEq (tOp (rI (fun _ j => 0 < j) fun i j => .int (i % j)) (tVar 6) (tC (.int 16))) (tC (.int 2))))) (tAsg (tOp (rIxL K) (tVar 4) (tC (.int 0))) (gName 7)) tNext)
            (tDrop (tBM K "list" rAppend (tVar 4) (tCons (tVar 7) tNil))) { nx := fun σ H2 => ∃ (ws : List Str) (v5 v6 v7 : Option V), σ = [some (.ref a), some (.int p), some (.str g), some (.int m), some (.ref l), v5, v6, v7] ∧ Same H H2 ∧ H2 l = some (.lst (ws.map V.str)) ∧ ws.length = i + 1 ∧ ∀ w ∈ ws, Word g w, rt := Q, ct := fun σ H2 => ∃ (ws : List Str) (v5 v6 v7 : Option V), σ = [some (.ref a), some (.int p), some (.str g), some (.int m), some (.ref l), v5, v6, v7] ∧ Same H H2 ∧ H2 l = some (.lst (ws.map V.str)) ∧ ws.length = i + 1 ∧ ∀ w ∈ ws, Word g w }
          [some (.ref a), some (.int p), some (.str g), some (.int m), some (.ref l), some (.int (0 + (i : Int))), some (.int cc), some (.str wd)] H3 := by
        intro wd hwd
        refine ⟨_, rfl, _, _, rfl, rfl, _, rfl, ?_⟩
        refine ite2 (fun hpos => ?_) (fun _ => iteF (fin wd hwd))
        have hi0 : 0 < i := by have : (0 : Int) < 0 + (i : Int) := of_decide_eq_true hpos; omega
        refine ⟨_, rfl, _, _, rfl, rfl, (by show (0 : Int) < 16; decide), rfl, _, rfl, ?_⟩
        refine ite2 (fun _ => ?_) (fun _ => fin wd hwd)
        have hl0 : 0 < ws.length := by omega
        have e1 : ws[0]? = some ws[0] := by simp [hl0]
        have e2 : atI (ws.map V.str) ((0 : Nat) : Int) = some (.str ws[0]) := atI_nat (by rw [List.getElem?_map, e1]; rfl)
        exact ⟨_, rfl, l, _, _, _, rfl, rfl, SqL.of h3, e2, fin _ (hws _ (List.getElem_mem hl0))⟩
      refine ⟨_, rfl, _, _, rfl, rfl, _, rfl, ?_⟩
      refine ite2 (fun hpos => ?_) (fun _ => iteF (second wd hwd))
      have hi0 : 0 < i := by have : (0 : Int) < 0 + (i : Int) := of_decide_eq_true hpos; omega
      refine ⟨_, rfl, _, _, rfl, rfl, (by show (0 : Int) < 4; decide), rfl, _, rfl, ?_⟩
      refine ite2 (fun _ => ?_) (fun _ => second wd hwd)
      obtain ⟨ws', wl, hsp⟩ : ∃ ws' wl, ws = ws' ++ [wl] := by
        refine ⟨ws.dropLast, ws.getLast (by intro z; rw [z] at hwl; simp at hwl; omega), (List.dropLast_concat_getLast _).symm⟩
      have hwlw : Word g wl := hws wl (by rw [hsp]; exact List.mem_append_right _ (List.mem_singleton.mpr rfl))
      have e2 : atI (ws.map V.str) (-1) = some (.str wl) := by rw [hsp, List.map_append]; exact atI_last _ _
      have hl1 := Txt.slice_le wl (some 1) none
      have hw5 := hwlw.hi
      have hd5 := hwd.hi
      refine ⟨_, rfl, _, rfl, l, _, _, _, rfl, rfl, SqL.of h3, e2, _, rfl, wl, rfl, small16 (by omega), _, rfl, _, _, rfl, rfl, small16 (by omega), _, rfl, _, rfl, small16 ?_, ?_⟩
      · rw [← len_ch, ch_append, List.length_append, len_ch, len_ch]
        omega
      · exact second _ (word_cut hwlw hwd)
    · rintro σ H2 ⟨ws, v5, v6, v7, rfl, s2, h2, hwl, hws⟩
      exact ⟨_, rfl, k l ws H2 s2 hl h2 (by omega) hws⟩
end
end K1

set_option Elab.async false
set_option linter.all false
set_option maxRecDepth 100000
set_option maxHeartbeats 4000000
namespace K1
open PySem L2 Bs Sx
section
variable {P : Program} {w : World} {K : PySem.W.Frag} {mg : Str → Option Value} {base : Heap}
theorem out_pool {g : Str} (sg : Signs g) {c : Nat} (h : c ∉ ch poolS) : c ∉ ch g := fun hc => h (sg.sub c hc)
def spOddW : Sp := fun vs H Q _ => ∃ (c : Int) (g : Str), vs = [.int c, .str g] ∧ Signs g ∧ ∀ (v : V) (H' : Hp), Same H H' → NoWd g H' v → (okLeaf v = true ∨ ∃ r, v = .ref r ∧ H r = none) → Q v H'
def spOddS : Sp := fun vs H Q _ => ∃ (c : Int) (g : Str), vs = [.int c, .str g] ∧ Signs g ∧ ∀ (v : V) (H' : Hp), Same H H' → NoSg H' v → Q v H'
theorem noW_str {g z : Str} {H : Hp} (h : NotWd g z) (hl : z.length ≤ 100) : NoWd g H (.str z) := ⟨.flat rfl, fun z' e => by cases e; exact ⟨h, hl⟩⟩
theorem noW_thing {g : Str} {H : Hp} {v : V} (t : Thing H v) (h : ∀ z, v ≠ .str z) : NoWd g H v := ⟨t, fun z e => absurd e (h z)⟩
theorem noS_str {z : Str} {H : Hp} (h : NotSg z) (hl : z.length ≤ 100) : NoSg H (.str z) := ⟨.flat rfl, fun z' e => by cases e; exact ⟨h, hl⟩⟩
theorem noS_thing {H : Hp} {v : V} (t : Thing H v) (h : ∀ z, v ≠ .str z) : NoSg H v := ⟨t, fun z e => absurd e (h z)⟩
theorem pick_at {xs : List V} {n : Nat} (hn : xs.length = n) {i : Int} (h0 : 0 ≤ i) (h1 : i < n) : ∃ v, atI xs i = some v ∧ v ∈ xs := by
  have hi : i.toNat < xs.length := by omega
  have e := atI_nat (List.getElem?_eq_getElem hi)
  rw [show ((i.toNat : Nat) : Int) = i by omega] at e
  exact ⟨_, e, List.getElem_mem hi⟩
theorem slice1 (g : Str) : ch (Txt.slice g none (some 1)) = (ch g).take 1 := slice_to g 1
theorem slice1_len (g : Str) : (Txt.slice g none (some 1)).length ≤ 1 := by
  rw [← len_ch, slice1, List.length_take]
  omega
theorem mk6 (c : Nat) : MulOk (⟨#[c]⟩ : Str) 6 := ⟨by show (decide ((6 : Int) < -2 ^ 63) || decide ((6 : Int) ≥ 2 ^ 63)) = false; decide, fun _ _ => by show ¬ (((1 : Nat) : Int) > (2 ^ 63 - 1) / 6); decide, fun _ _ => by show Builtin.Str.tooLong (1 * 6) = false; decide⟩
theorem mul6_len (c : Nat) : (Txt.mul (⟨#[c]⟩ : Str) 6).length = 6 := by rfl
theorem poolN {c : Nat} (h : decide (c ∈ ch poolS) = false) : c ∉ ch poolS := of_decide_eq_false h
theorem sc__law_odd_word : FnScope ["_law_cell_here", "_law_signs_here", "_law_some", "_law_word_here", "_law_at"] ["_law_cell_here", "_law_signs_here"] (defScope (top 39)) := ⟨rfl, rfl, rfl, by decide +kernel, rfl, by decide +kernel, by decide +kernel⟩
theorem ok__law_odd_word (L : Lk K mg) : FnOk P w K mg base CX0 3 L.f__law_odd_word L.d__law_odd_word ["_law_cell_here", "_law_signs_here"] spOddW := by
  have T := L.T
  refine L.a__law_odd_word.F.ok sc__law_odd_word (fun vs H Q E h => ?_) (fun cdv A outer s H vs Q E hr h => ?_)
  · obtain ⟨c, g, rfl, _⟩ := h
    rfl
  · obtain ⟨c, g, rfl, sg, k⟩ := h
    refine ⟨_, (pss_cons (ps_set (i := 2) sc__law_odd_word.nd rfl (Or.inl rfl) (pe_lst (pa_cons pe_str (pa_cons (pe_op op_mulS (pe_ix ix_str (pv 1) pe_int (fun _ _ => rfl)) pe_int) (pa_cons (pe_op op_add_str (pe_ix ix_str (pv 1) pe_int (fun _ _ => rfl)) pe_str) (pa_cons pe_str (pa_cons pe_non (pa_cons pe_int (pa_cons pe_bl (pa_cons (pe_lst (pa_cons (pe_ix ix_str (pv 1) pe_int (fun _ _ => rfl)) pa_nil)) (pa_cons (pe_tup (pa_cons (pe_ix ix_str (pv 1) pe_int (fun _ _ => rfl)) pa_nil)) (pa_cons (pe_op op_add_str (pe_slice sl_str (pv 1) po_none (po_some pe_int)) pe_str) (pa_cons pe_int (pa_cons pe_dnewK pa_nil))))))))))))))
        (pss_cons (ps_set (i := 3) sc__law_odd_word.nd rfl (Or.inl rfl) (pe_slice sl_str (pe_call (ok__law_word L) (hr.mono (by decide)) rfl L.a__law_word.g L.a__law_word.F.kp L.a__law_word.b .nil pass0 (pa_cons (pe_op op_fdiv (pv 0) pe_int) (pa_cons (pv 1) pa_nil))) po_none (po_some pe_int)))
        (pss_cons (ps_set (i := 4) sc__law_odd_word.nd rfl (Or.inl rfl) (pe_op op_mod (pe_op op_fdiv (pv 0) pe_int) (pe_op op_add (pe_callB call_len_str (by rfl) T.len PySem.boot_len (pa_cons (pv 3) pa_nil)) pe_int)))
        (pss_one (ps_ret (pe_ix ix_list (pe_op op_cat (pv 2) (pe_lst (pa_cons (pe_op op_add_str (pe_op op_add_str (pe_slice sl_str (pv 3) po_none (po_some (pv 4))) pe_str) (pe_slice sl_str (pv 3) (po_some (pv 4)) po_none)) pa_nil))) (pe_op op_mod (pv 0) pe_int) (fun _ _ => rfl))))))), ?_⟩
    have glo := sg.lo
    have ghi := sg.hi
    have gl := len_ch g
    have sm : g.length ≤ sizeLine := small16 (by omega)
    obtain ⟨c0, hc0⟩ : ∃ c, (ch g)[0]? = some c := ⟨(ch g)[0]'(by omega), by simp⟩
    have e0 : atI (ch g) ((0 : Nat) : Int) = some c0 := atI_nat hc0
    have hA := slice1_len g
    have nA := slice1 g
    refine ⟨_, rfl, g, 0, c0, rfl, rfl, sm, e0, _, _, rfl, rfl, mk6 c0, _, rfl, g, 0, c0, rfl, rfl, sm, e0, _, _, rfl, rfl, small16 (by show 1 + 1 ≤ 1000000; decide), _, rfl, g, 0, c0, rfl, rfl, sm, e0, by show 1 ≤ sizeLine; decide, fun la hla => ?_⟩
    refine ⟨_, rfl, g, 0, c0, rfl, rfl, sm, e0, by show 1 ≤ sizeLine; decide, fun lt hlt => ?_⟩
    refine ⟨_, rfl, _, rfl, g, rfl, sm, _, _, rfl, rfl, small16 (by show _ + 1 ≤ 1000000; omega), fun ld hld => ⟨by show 12 ≤ sizeLine; decide, fun lx hlx => ?_⟩⟩
    have fla : H la = none := hla
    have flt : H lt = none := none_of (Same.upd (o := .lst [.str ⟨#[c0]⟩]) hla) hlt
    have fld : H ld = none := none_of ((Same.upd (o := .lst [.str ⟨#[c0]⟩]) hla).trans (Same.upd (o := .tup [.str ⟨#[c0]⟩]) hlt)) hld
    have n2 : NotWd g (Txt.mul (⟨#[c0]⟩ : Str) 6) := .inr (.inl (by rw [mul6_len]; decide))
    have l2 := mul6_len c0
    have n3 : NotWd g ((⟨#[c0]⟩ : Str) ++ "_") := .inr (.inr ⟨95, by rw [ch_append]; exact List.mem_append_right _ (by decide +kernel), out_pool sg (poolN (by decide +kernel))⟩)
    have l3 : ((⟨#[c0]⟩ : Str) ++ "_").length = 2 := by rw [len_app]; rfl
    have n10 : NotWd g (Txt.slice g none (some 1) ++ " ") := .inr (.inr ⟨32, by rw [ch_append]; exact List.mem_append_right _ (by decide +kernel), out_pool sg (poolN (by decide +kernel))⟩)
    have l10 : (Txt.slice g none (some 1) ++ " ").length ≤ 2 := by rw [len_app]; show _ + 1 ≤ 2; omega
    generalize Txt.mul (⟨#[c0]⟩ : Str) 6 = z2 at n2 l2 ⊢
    generalize (⟨#[c0]⟩ : Str) ++ "_" = z3 at n3 l3 ⊢
    generalize Txt.slice g none (some 1) ++ " " = z10 at n10 l10 ⊢
    have s1 : Same H (upd H la (.lst [.str ⟨#[c0]⟩])) := Same.upd hla
    have a1 : (upd H la (.lst [.str ⟨#[c0]⟩])) la = some (.lst [.str ⟨#[c0]⟩]) := upd_same
    generalize upd H la (.lst [.str ⟨#[c0]⟩]) = H1 at s1 a1 hlt hld hlx ⊢
    have s2 : Same H1 (upd H1 lt (.tup [.str ⟨#[c0]⟩])) := Same.upd hlt
    have a2 : (upd H1 lt (.tup [.str ⟨#[c0]⟩])) lt = some (.tup [.str ⟨#[c0]⟩]) := upd_same
    generalize upd H1 lt (.tup [.str ⟨#[c0]⟩]) = H2 at s2 a2 hld hlx ⊢
    have s3 : Same H2 (upd H2 ld (.dK [])) := Same.upd hld
    have a3 : (upd H2 ld (.dK [])) ld = some (.dK []) := upd_same
    generalize upd H2 ld (.dK []) = H3 at s3 a3 hlx ⊢
    have s4 : Same H3 (upd H3 lx (.lst [.str "", .str z2, .str z3, .str "Z", .non, .int 0, .bl false, .ref la, .ref lt, .str z10, .int 7, .ref ld])) := Same.upd hlx
    have a4 : (upd H3 lx (.lst [.str "", .str z2, .str z3, .str "Z", .non, .int 0, .bl false, .ref la, .ref lt, .str z10, .int 7, .ref ld])) lx = some (.lst [.str "", .str z2, .str z3, .str "Z", .non, .int 0, .bl false, .ref la, .ref lt, .str z10, .int 7, .ref ld]) := upd_same
    generalize upd H3 lx (.lst [.str "", .str z2, .str z3, .str "Z", .non, .int 0, .bl false, .ref la, .ref lt, .str z10, .int 7, .ref ld]) = H4 at s4 a4 ⊢
    have s04 := s1.trans (s2.trans (s3.trans s4))
    have t1 : Thing H4 (.ref la) := .lst ((s2.trans (s3.trans s4)) _ _ a1) rfl
    have t2 : Thing H4 (.ref lt) := .tup ((s3.trans s4) _ _ a2) rfl
    have t3 : Thing H4 (.ref ld) := .dic (s4 _ _ a3)
    -- the word
    refine ⟨_, rfl, _, _, rfl, rfl, ⟨by decide, by decide⟩, _, rfl, _, g, rfl, by omega, by omega, fun x H5 hx s5 => ⟨_, rfl, x, rfl, small16 (by have := hx.hi; omega), ?_⟩⟩
    have hW : (Txt.slice x none (some 4)).length ≤ 5 := by
      have e : ch (Txt.slice x none (some 4)) = (ch x).take 4 := slice_to x 4
      rw [← len_ch, e, List.length_take]
      omega
    generalize Txt.slice x none (some 4) = W at hW ⊢
    have smW : W.length ≤ sizeLine := small16 (by omega)
    refine ⟨_, rfl, _, _, rfl, rfl, ⟨by decide, by decide⟩, _, rfl, W, rfl, smW, _, _, rfl, rfl, _, _, rfl, rfl, (by show (0 : Int) < (W.length : Int) + 1; omega), ?_⟩
    show gName 4 (V.int (c / 13 % ((W.length : Int) + 1))) _ _ _
    obtain ⟨t, et, ht⟩ : ∃ t : Nat, c / 13 % ((W.length : Int) + 1) = (t : Int) ∧ t ≤ W.length := ⟨(c / 13 % ((W.length : Int) + 1)).toNat, by have := Int.emod_nonneg (c / 13) (show ((W.length : Int) + 1) ≠ 0 by omega); omega, by have := Int.emod_lt_of_pos (c / 13) (show (0 : Int) < (W.length : Int) + 1 by omega); omega⟩
    rw [et]
    have hB : (Txt.slice W none (some (t : Int))).length ≤ 5 := by rw [← len_ch, slice_to, List.length_take, len_ch]; omega
    have hC : (Txt.slice W (some (t : Int)) none).length ≤ 5 := by rw [← len_ch, slice_from, List.length_drop, len_ch]; omega
    have hBC : (Txt.slice W none (some (t : Int)) ++ "_").length ≤ 6 := by rw [len_app]; show _ + 1 ≤ 6; omega
    refine ⟨_, rfl, _, rfl, _, rfl, _, rfl, W, rfl, smW, _, _, rfl, rfl, small16 (by show _ + 1 ≤ 1000000; omega), _, rfl, _, rfl, _, rfl, W, rfl, smW, _, _, rfl, rfl, small16 (by omega), by show 1 ≤ sizeLine; decide, fun l1 hl1 => ?_⟩
    have nY : NotWd g (Txt.slice W none (some (t : Int)) ++ "_" ++ Txt.slice W (some (t : Int)) none) := .inr (.inr ⟨95, by rw [ch_append, ch_append]; exact List.mem_append_left _ (List.mem_append_right _ (by decide +kernel)), out_pool sg (poolN (by decide +kernel))⟩)
    have lY : (Txt.slice W none (some (t : Int)) ++ "_" ++ Txt.slice W (some (t : Int)) none).length ≤ 100 := by rw [len_app]; omega
    generalize Txt.slice W none (some (t : Int)) ++ "_" ++ Txt.slice W (some (t : Int)) none = zY at nY lY ⊢
    have a5 := s5 _ _ a4
    refine ⟨lx, l1, _, _, rfl, rfl, Same.upd hl1 _ _ a5, upd_same, by show 13 ≤ sizeLine; decide, fun l2 hl2 => ?_⟩
    obtain ⟨v, hv, hm⟩ := pick_at (xs := [.str "", .str z2, .str z3, .str "Z", .non, .int 0, .bl false, .ref la, .ref lt, .str z10, .int 7, .ref ld] ++ [.str zY]) (n := 13) rfl (i := c % 13) (Int.emod_nonneg _ (by decide)) (Int.emod_lt_of_pos _ (by decide))
    refine ⟨_, rfl, _, _, rfl, rfl, (by show (0 : Int) < 13; decide), l2, _, _, v, rfl, rfl, SqL.of upd_same, hv, ?_⟩
    have s6 : Same H4 (upd (upd H5 l1 (.lst [.str zY])) l2 (.lst ([.str "", .str z2, .str z3, .str "Z", .non, .int 0, .bl false, .ref la, .ref lt, .str z10, .int 7, .ref ld] ++ [.str zY]))) := (s5.trans (Same.upd hl1)).trans (Same.upd hl2)
    refine k v _ (s04.trans s6) ?_ ?_
    · simp only [List.mem_append, List.mem_cons, List.not_mem_nil, or_false] at hm
      rcases hm with (rfl | rfl | rfl | rfl | rfl | rfl | rfl | rfl | rfl | rfl | rfl | rfl) | rfl
      · exact noW_str (.inl (by decide +kernel)) (by decide +kernel)
      · exact noW_str n2 (by omega)
      · exact noW_str n3 (by omega)
      · exact noW_str (.inr (.inr ⟨90, by decide +kernel, out_pool sg (poolN (by decide +kernel))⟩)) (by decide +kernel)
      · exact noW_thing (.flat rfl) (fun z e => by cases e)
      · exact noW_thing (.flat rfl) (fun z e => by cases e)
      · exact noW_thing (.flat rfl) (fun z e => by cases e)
      · exact noW_thing (t1.same s6) (fun z e => by cases e)
      · exact noW_thing (t2.same s6) (fun z e => by cases e)
      · exact noW_str n10 (by omega)
      · exact noW_thing (.flat rfl) (fun z e => by cases e)
      · exact noW_thing (t3.same s6) (fun z e => by cases e)
      · exact noW_str nY lY
    · simp only [List.mem_append, List.mem_cons, List.not_mem_nil, or_false] at hm
      rcases hm with (rfl | rfl | rfl | rfl | rfl | rfl | rfl | rfl | rfl | rfl | rfl | rfl) | rfl
      all_goals first | exact .inl rfl | exact .inr ⟨_, rfl, fla⟩ | exact .inr ⟨_, rfl, flt⟩ | exact .inr ⟨_, rfl, fld⟩
end
end K1

set_option Elab.async false
set_option linter.all false
set_option maxRecDepth 100000
set_option maxHeartbeats 4000000
namespace K1
open PySem L2 Bs Sx
section
variable {P : Program} {w : World} {K : PySem.W.Frag} {mg : Str → Option Value} {base : Heap}
theorem sign_eq {z : Str} {i j c : Nat} (hi : (ch z)[i]? = some c) (hj : (ch z)[j]? = some c) : signAt z i = signAt z j := by
  have at_ : ∀ {n : Nat}, (ch z)[n]? = some c → z.cps.getD n 0 = c := fun {n} h => by
    have h' : z.cps.toList[n]? = some c := h
    rw [Array.getElem?_toList] at h'
    rw [Array.getD_eq_getD_getElem?, h']
    rfl
  unfold signAt
  rw [at_ hi, at_ hj]
theorem first_dup {g : Str} {c0 : Nat} (h0 : (ch g)[0]? = some c0) {z : Str} {r : List Nat} (hz : ch z = ch g ++ c0 :: r) (hl : 1 ≤ g.length) : ∃ i j, i < j ∧ j < z.length ∧ signAt z i = signAt z j := by
  have gl := len_ch g
  have zl : z.length = g.length + (r.length + 1) := by rw [← len_ch, hz, List.length_append, List.length_cons, len_ch]
  refine ⟨0, g.length, by omega, by omega, ?_⟩
  exact sign_eq (z := z) (c := c0) (by rw [hz, List.getElem?_append_left (by omega)]; exact h0) (by rw [hz, List.getElem?_append_right (by omega), gl, Nat.sub_self]; rfl)
theorem put_dup {f : Str} {t k : Nat} {ck : Nat} (hk : (ch f)[k]? = some ck) (ht : t ≤ f.length) {z : Str} (hz : ch z = (ch f).take t ++ (ck :: (ch f).drop t)) : ∃ i j, i < j ∧ j < z.length ∧ signAt z i = signAt z j := by
  have fl := len_ch f
  have hkl : k < (ch f).length := (List.getElem?_eq_some_iff.mp hk).1
  have tl : ((ch f).take t).length = t := by rw [List.length_take]; omega
  have zl : z.length = f.length + 1 := by rw [← len_ch, hz, List.length_append, List.length_cons, tl, List.length_drop]; omega
  have ht' : (ch z)[t]? = some ck := by rw [hz, List.getElem?_append_right (by omega), tl, Nat.sub_self]; rfl
  by_cases h : k < t
  · refine ⟨k, t, h, by omega, sign_eq (c := ck) ?_ ht'⟩
    rw [hz, List.getElem?_append_left (by omega), List.getElem?_take, if_pos h]
    exact hk
  · refine ⟨t, k + 1, by omega, by omega, sign_eq (c := ck) ht' ?_⟩
    rw [hz, List.getElem?_append_right (by omega), tl, show k + 1 - t = (k - t) + 1 by omega, List.getElem?_cons_succ, List.getElem?_drop, show t + (k - t) = k by omega]
    exact hk
theorem sc__law_odd_signs : FnScope ["_law_cell_here", "_law_signs_here", "_law_some", "_law_few", "_law_at"] ["_law_cell_here", "_law_signs_here"] (defScope (top 38)) := ⟨rfl, rfl, rfl, by decide +kernel, rfl, by decide +kernel, by decide +kernel⟩
theorem ok__law_odd_signs (L : Lk K mg) : FnOk P w K mg base CX0 1 L.f__law_odd_signs L.d__law_odd_signs ["_law_cell_here", "_law_signs_here"] spOddS := by
  have T := L.T
  refine L.a__law_odd_signs.F.ok sc__law_odd_signs (fun vs H Q E h => ?_) (fun cdv A outer s H vs Q E hr h => ?_)
  · obtain ⟨c, g, rfl, _⟩ := h
    rfl
  · obtain ⟨c, g, rfl, sg, k⟩ := h
    refine ⟨_, (pss_cons (ps_set (i := 2) sc__law_odd_signs.nd rfl (Or.inl rfl) (pe_lst (pa_cons pe_str (pa_cons (pe_ix ix_str (pv 1) pe_int (fun _ _ => rfl)) (pa_cons pe_str (pa_cons (pe_op op_add_str (pv 1) (pe_slice sl_str (pv 1) po_none (po_some pe_int))) (pa_cons (pe_op op_add_str (pe_slice sl_str (pv 1) po_none (po_some pe_int)) pe_str) (pa_cons (pe_op op_add_str (pe_slice sl_str (pv 1) po_none (po_some pe_int)) pe_str) (pa_cons (pe_op op_add_str (pe_slice sl_str (pv 1) po_none (po_some pe_int)) pe_str) (pa_cons pe_non (pa_cons pe_int pa_nil)))))))))))
        (pss_cons (ps_set (i := 3) sc__law_odd_signs.nd rfl (Or.inl rfl) (pe_slice sl_str (pv 1) po_none (po_some pe_int)))
        (pss_cons (ps_set (i := 4) sc__law_odd_signs.nd rfl (Or.inl rfl) (pe_op op_mod (pe_op op_fdiv (pv 0) pe_int) (pe_op op_add (pe_callB call_len_str (by rfl) T.len PySem.boot_len (pa_cons (pv 3) pa_nil)) pe_int)))
        (pss_cons (ps_set (i := 2) sc__law_odd_signs.nd rfl (Or.inl rfl) (pe_op op_cat (pv 2) (pe_lst (pa_cons (pe_lst (pa_cons pe_str (pa_cons pe_str pa_nil))) (pa_cons pe_bl (pa_cons (pe_tup (pa_cons pe_str (pa_cons pe_str pa_nil))) (pa_cons (pe_op op_add_str (pe_op op_add_str (pe_slice sl_str (pv 3) po_none (po_some (pv 4))) (pe_ix ix_str (pv 3) (pe_op op_mod (pe_op op_fdiv (pv 0) pe_int) (pe_callB call_len_str (by rfl) T.len PySem.boot_len (pa_cons (pv 3) pa_nil))) (fun _ _ => rfl))) (pe_slice sl_str (pv 3) (po_some (pv 4)) po_none)) pa_nil)))))))
        (pss_one (ps_ret (pe_ix ix_list (pv 2) (pe_op op_mod (pv 0) pe_int) (fun _ _ => rfl)))))))), ?_⟩
    have glo := sg.lo
    have ghi := sg.hi
    have gl := len_ch g
    have sm : g.length ≤ sizeLine := small16 (by omega)
    obtain ⟨c0, hc0⟩ : ∃ c, (ch g)[0]? = some c := ⟨(ch g)[0]'(by omega), by simp⟩
    have e0 : atI (ch g) ((0 : Nat) : Int) = some c0 := atI_nat hc0
    have hA := slice1_len g
    have nA := slice1 g
    have tk1 : (ch g).take 1 = [c0] := by
      rw [List.take_add_one, hc0]
      rfl
    refine ⟨_, rfl, g, 0, c0, rfl, rfl, sm, e0, _, rfl, _, rfl, _, rfl, g, rfl, sm, _, _, rfl, rfl, small16 (by omega), _, rfl, _, rfl, g, rfl, sm, _, _, rfl, rfl, small16 (by show _ + 1 ≤ 1000000; omega), _, rfl, _, rfl, g, rfl, sm, _, _, rfl, rfl, small16 (by show _ + 1 ≤ 1000000; omega), _, rfl, _, rfl, g, rfl, sm, _, _, rfl, rfl, small16 (by show _ + 1 ≤ 1000000; omega), by show 9 ≤ sizeLine; decide, fun lx hlx => ?_⟩
    have n2 : NotSg (⟨#[c0]⟩ : Str) := .inl (by show 1 < 2; decide)
    have n4 : NotSg (g ++ Txt.slice g none (some 1)) := .inr (.inr (.inr (first_dup (r := []) hc0 (by rw [ch_append, nA, tk1]) (by omega))))
    have l4 : (g ++ Txt.slice g none (some 1)).length ≤ 5 := by rw [len_app]; omega
    have n5 : NotSg (Txt.slice g none (some 1) ++ "A") := .inr (.inr (.inl ⟨65, by rw [ch_append]; exact List.mem_append_right _ (by decide +kernel), poolN (by decide +kernel)⟩))
    have l5 : (Txt.slice g none (some 1) ++ "A").length ≤ 2 := by rw [len_app]; show _ + 1 ≤ 2; omega
    have n6 : NotSg (Txt.slice g none (some 1) ++ " ") := .inr (.inr (.inl ⟨32, by rw [ch_append]; exact List.mem_append_right _ (by decide +kernel), poolN (by decide +kernel)⟩))
    have l6 : (Txt.slice g none (some 1) ++ " ").length ≤ 2 := by rw [len_app]; show _ + 1 ≤ 2; omega
    have n7 : NotSg (Txt.slice g none (some 1) ++ "-") := .inr (.inr (.inl ⟨45, by rw [ch_append]; exact List.mem_append_right _ (by decide +kernel), poolN (by decide +kernel)⟩))
    have l7 : (Txt.slice g none (some 1) ++ "-").length ≤ 2 := by rw [len_app]; show _ + 1 ≤ 2; omega
    generalize g ++ Txt.slice g none (some 1) = z4 at n4 l4 ⊢
    generalize Txt.slice g none (some 1) ++ "A" = z5 at n5 l5 ⊢
    generalize Txt.slice g none (some 1) ++ " " = z6 at n6 l6 ⊢
    generalize Txt.slice g none (some 1) ++ "-" = z7 at n7 l7 ⊢
    have s1 : Same H (upd H lx (.lst [.str "", .str ⟨#[c0]⟩, .str "abcde", .str z4, .str z5, .str z6, .str z7, .non, .int 12])) := Same.upd hlx
    have a1 : (upd H lx (.lst [.str "", .str ⟨#[c0]⟩, .str "abcde", .str z4, .str z5, .str z6, .str z7, .non, .int 12])) lx = some (.lst [.str "", .str ⟨#[c0]⟩, .str "abcde", .str z4, .str z5, .str z6, .str z7, .non, .int 12]) := upd_same
    generalize upd H lx (.lst [.str "", .str ⟨#[c0]⟩, .str "abcde", .str z4, .str z5, .str z6, .str z7, .non, .int 12]) = H1 at s1 a1 ⊢
    -- few
    refine ⟨_, rfl, _, rfl, g, rfl, sm, ?_⟩
    have eF : ch (Txt.slice g none (some 3)) = (ch g).take 3 := slice_to g 3
    have lF : (Txt.slice g none (some 3)).length = min 3 g.length := by rw [← len_ch, eF, List.length_take, gl]
    generalize Txt.slice g none (some 3) = F at eF lF ⊢
    have smF : F.length ≤ sizeLine := small16 (by omega)
    refine ⟨_, rfl, _, _, rfl, rfl, ⟨by decide, by decide⟩, _, rfl, F, rfl, smF, _, _, rfl, rfl, _, _, rfl, rfl, (by show (0 : Int) < (F.length : Int) + 1; omega), ?_⟩
    show gName 4 (V.int (c / 13 % ((F.length : Int) + 1))) _ _ _
    obtain ⟨t, et, ht⟩ : ∃ t : Nat, c / 13 % ((F.length : Int) + 1) = (t : Int) ∧ t ≤ F.length := ⟨(c / 13 % ((F.length : Int) + 1)).toNat, by have := Int.emod_nonneg (c / 13) (show ((F.length : Int) + 1) ≠ 0 by omega); omega, by have := Int.emod_lt_of_pos (c / 13) (show (0 : Int) < (F.length : Int) + 1 by omega); omega⟩
    rw [et]
    -- the others
    obtain ⟨kk, ek, hk⟩ : ∃ kk : Nat, c / 52 % (F.length : Int) = (kk : Int) ∧ kk < F.length := ⟨(c / 52 % (F.length : Int)).toNat, by have := Int.emod_nonneg (c / 52) (show (F.length : Int) ≠ 0 by omega); omega, by have := Int.emod_lt_of_pos (c / 52) (show (0 : Int) < (F.length : Int) by omega); omega⟩
    have hkc : kk < (ch F).length := by rw [len_ch]; exact hk
    have hck : (ch F)[kk]? = some (ch F)[kk] := List.getElem?_eq_getElem hkc
    have hB : (Txt.slice F none (some (t : Int))).length ≤ 5 := by rw [← len_ch, slice_to, List.length_take, len_ch]; omega
    have hC : (Txt.slice F (some (t : Int)) none).length ≤ 5 := by rw [← len_ch, slice_from, List.length_drop, len_ch]; omega
    have hBC : (Txt.slice F none (some (t : Int)) ++ (⟨#[(ch F)[kk]]⟩ : Str)).length ≤ 6 := by rw [len_app]; show _ + 1 ≤ 6; omega
    refine ⟨_, rfl, by show 2 ≤ sizeLine; decide, fun la hla => ⟨by show 2 ≤ sizeLine; decide, fun lt hlt => ?_⟩⟩
    refine ⟨_, rfl, _, rfl, _, rfl, F, rfl, smF, _, rfl, _, rfl, _, _, rfl, rfl, ⟨by decide, by decide⟩, _, rfl, F, rfl, smF, _, _, rfl, rfl, (by show (0 : Int) < (F.length : Int); omega), F, _, _, rfl, rfl, smF, (by show atI (ch F) (c / 52 % (F.length : Int)) = _; rw [ek]; exact atI_nat hck), _, _, rfl, rfl, small16 (by show _ + 1 ≤ 1000000; omega), _, rfl, _, rfl, _, rfl, F, rfl, smF, _, _, rfl, rfl, small16 (by omega), by show 4 ≤ sizeLine; decide, fun l1 hl1 => ?_⟩
    have nY : NotSg (Txt.slice F none (some (t : Int)) ++ (⟨#[(ch F)[kk]]⟩ : Str) ++ Txt.slice F (some (t : Int)) none) := .inr (.inr (.inr (put_dup hck ht (by rw [ch_append, ch_append, slice_to, slice_from, ch_one, List.append_assoc]; rfl))))
    have lY : (Txt.slice F none (some (t : Int)) ++ (⟨#[(ch F)[kk]]⟩ : Str) ++ Txt.slice F (some (t : Int)) none).length ≤ 100 := by rw [len_app]; omega
    generalize Txt.slice F none (some (t : Int)) ++ (⟨#[(ch F)[kk]]⟩ : Str) ++ Txt.slice F (some (t : Int)) none = zY at nY lY ⊢
    have s2 : Same H1 (upd H1 la (.lst [.str "a", .str "b"])) := Same.upd hla
    have a2 : (upd H1 la (.lst [.str "a", .str "b"])) la = some (.lst [.str "a", .str "b"]) := upd_same
    generalize upd H1 la (.lst [.str "a", .str "b"]) = H2 at s2 a2 hlt hl1 ⊢
    have s3 : Same H2 (upd H2 lt (.tup [.str "a", .str "b"])) := Same.upd hlt
    have a3 : (upd H2 lt (.tup [.str "a", .str "b"])) lt = some (.tup [.str "a", .str "b"]) := upd_same
    generalize upd H2 lt (.tup [.str "a", .str "b"]) = H3 at s3 a3 hl1 ⊢
    refine ⟨lx, l1, _, _, rfl, rfl, Same.upd hl1 _ _ ((s2.trans s3) _ _ a1), upd_same, by show 13 ≤ sizeLine; decide, fun l2 hl2 => ?_⟩
    obtain ⟨v, hv, hm⟩ := pick_at (xs := [.str "", .str ⟨#[c0]⟩, .str "abcde", .str z4, .str z5, .str z6, .str z7, .non, .int 12] ++ [.ref la, .bl true, .ref lt, .str zY]) (n := 13) rfl (i := c % 13) (Int.emod_nonneg _ (by decide)) (Int.emod_lt_of_pos _ (by decide))
    refine ⟨_, rfl, _, rfl, _, _, rfl, rfl, (by show (0 : Int) < 13; decide), l2, _, _, v, rfl, rfl, SqL.of upd_same, hv, ?_⟩
    have s4 : Same H3 (upd (upd H3 l1 (.lst [.ref la, .bl true, .ref lt, .str zY])) l2 (.lst ([.str "", .str ⟨#[c0]⟩, .str "abcde", .str z4, .str z5, .str z6, .str z7, .non, .int 12] ++ [.ref la, .bl true, .ref lt, .str zY]))) := (Same.upd hl1).trans (Same.upd hl2)
    refine k v _ (s1.trans (s2.trans (s3.trans s4))) ?_
    simp only [List.mem_append, List.mem_cons, List.not_mem_nil, or_false] at hm
    rcases hm with (rfl | rfl | rfl | rfl | rfl | rfl | rfl | rfl | rfl) | rfl | rfl | rfl | rfl
    · exact noS_str (.inl (by decide +kernel)) (by decide +kernel)
    · exact noS_str n2 (by show 1 ≤ 100; decide)
    · exact noS_str (.inr (.inl (by decide +kernel))) (by decide +kernel)
    · exact noS_str n4 (by omega)
    · exact noS_str n5 (by omega)
    · exact noS_str n6 (by omega)
    · exact noS_str n7 (by omega)
    · exact noS_thing (.flat rfl) (fun z e => by cases e)
    · exact noS_thing (.flat rfl) (fun z e => by cases e)
    · exact noS_thing (.lst ((s3.trans s4) _ _ a2) rfl) (fun z e => by cases e)
    · exact noS_thing (.flat rfl) (fun z e => by cases e)
    · exact noS_thing (.tup (s4 _ _ a3) rfl) (fun z e => by cases e)
    · exact noS_str nY lY
end
end K1

set_option Elab.async false
set_option linter.all false
set_option maxRecDepth 100000
set_option maxHeartbeats 4000000
namespace K1
open PySem L2 Bs Sx
section
variable {P : Program} {w : World} {K : PySem.W.Frag} {mg : Str → Option Value} {base : Heap}
theorem Thing.keep {H H' : Hp} {v : V} {l : Addr} (t : Thing H v) (hn : ∀ r, v = .ref r → r ≠ l) (kp : ∀ b o, H b = some o → b ≠ l → H' b = some o) : Thing H' v := by
  cases t with
  | flat h => exact .flat h
  | lst h f => exact .lst (kp _ _ h (hn _ rfl)) f
  | tup h f => exact .tup (kp _ _ h (hn _ rfl)) f
  | dic h => exact .dic (kp _ _ h (hn _ rfl))
/-- a thing in the list's place that is no word -/
def Odd (g : Str) (l : Addr) (H : Hp) (x : V) : Prop := NoWd g H x ∧ (okLeaf x = true ∨ ∃ r, x = .ref r ∧ r ≠ l)
theorem Odd.keep {g : Str} {H H' : Hp} {v : V} {l : Addr} (t : Odd g l H v) (kp : ∀ b o, H b = some o → b ≠ l → H' b = some o) : Odd g l H' v := by
  refine ⟨⟨Thing.keep t.1.1 (fun r e => ?_) kp, t.1.2⟩, t.2⟩
  rcases t.2 with h | ⟨r', e', hn⟩
  · rw [e] at h; cases h
  · rw [e] at e'; cases e'; exact hn
theorem ints_of {R : Int → Prop} : ∀ {ys : List V}, (∀ y ∈ ys, ∃ t, y = .int t ∧ R t) → ∃ ts : List Int, ys = ts.map V.int ∧ ∀ t ∈ ts, R t
  | [], _ => ⟨[], rfl, fun _ h => nomatch h⟩
  | y :: ys, h => by
    obtain ⟨t, rfl, ht⟩ := h y (List.mem_cons_self ..)
    obtain ⟨ts, rfl, hts⟩ := ints_of (R := R) (ys := ys) fun y hy => h y (List.mem_cons_of_mem _ hy)
    refine ⟨t :: ts, rfl, fun z hz => ?_⟩
    rcases List.mem_cons.mp hz with e | hz
    · rw [e]; exact ht
    · exact hts z hz
theorem sc_law : FnScope ["_law_script", "_law_signs_here", "_law_words_here", "_law_way", "_law_odd", "_law_handed", "_law_place", "_law_told_signs", "_law_right", "_law_copied", "_law_due_here", "_law_turn", "_law_told_here"] ["_law_script"] (defScope (top 44)) := ⟨rfl, rfl, rfl, by decide +kernel, rfl, by decide +kernel, by decide +kernel⟩
theorem ok_law {f : Addr} {fd : FuncData} (L : Lk K mg) (F : Fun K "law" "law" (top 44) f fd) : FnOk P w K mg base CX0 7 f fd ["_law_script"] (spLaw K) := by
  have T := L.T
  refine F.ok sc_law (fun vs H Q E h => ?_) (fun cdv A outer s H vs Q E hr h => ?_)
  · obtain ⟨a, ns, rfl, _⟩ := h
    rfl
  · obtain ⟨a, ns, rfl, hS, hlen, k⟩ := h
    have hu0 : (A.deeper (PyProof.Rows.envOfC "law" (defScope (top 44)) s.heap.objs.size f cdv)).units < cLine := hr.units0
    refine ⟨_, (pss_cons (ps_set (i := 1) sc_law.nd rfl (Or.inl rfl) (pe_call (ok__law_signs L) (hr.mono (by decide)) rfl L.a__law_signs.g L.a__law_signs.F.kp L.a__law_signs.b .nil pass0 (pa_cons (pe_call (ok__law_cell L) (hr.mono (by decide)) rfl L.a__law_cell.g L.a__law_cell.F.kp L.a__law_cell.b .nil pass0 (pa_cons (pv 0) (pa_cons pe_int pa_nil))) pa_nil)))
        (pss_cons (ps_set (i := 2) sc_law.nd rfl (Or.inr rfl) (pe_call (ok__law_words L) (hr.mono (by decide)) rfl L.a__law_words.g L.a__law_words.F.kp L.a__law_words.b .nil pass0 (pa_cons (pv 0) (pa_cons pe_int (pa_cons (pv 1) (pa_cons pe_int pa_nil))))))
        (pss_cons (ps_set (i := 3) sc_law.nd rfl (Or.inl rfl) (pe_op op_mod (pe_call (ok__law_cell L) (hr.mono (by decide)) rfl L.a__law_cell.g L.a__law_cell.F.kp L.a__law_cell.b .nil pass0 (pa_cons (pv 0) (pa_cons pe_int pa_nil))) pe_int))
        (pss_cons (ps_set (i := 4) sc_law.nd rfl (Or.inl rfl) (pe_lst pa_nil))
        (pss_cut (ps_if (PW.pt (pw_and (pt_cmpR op_gt (pv 3) pe_int (nomark _)) (pw_and (pt_cmpR op_lt (pv 3) pe_int (nomark _)) (pw_and1 (pt_cmpR (op_neL hu0) (pv 2) (pe_lst pa_nil) (nomark _)))))) (pss_one (ps_setComp (i := 4) rfl (blockOk_of (sc := defScope (top 44)) (N := ["_law_script", "_law_signs_here", "_law_words_here", "_law_way", "_law_odd", "_law_handed", "_law_place", "_law_told_signs", "_law_right", "_law_copied", "_law_due_here", "_law_turn", "_law_told_here"]) (ys := ["_law_script", "_law_words_here"]) (ix := [0, 2]) rfl rfl (by decide +kernel)) sc_law.nd rfl rfl (pi_range1 rfl T.range (pa_cons (pe_op op_add pe_int (pe_op op_mod (pv 3) pe_int)) pa_nil)) (fun _ _ _ _ _ _ => pts_nil) (fun _ _ _ _ _ _ => (pe_call (ok__law_draw L) (hr.mono (by decide)) rfl L.a__law_draw.g L.a__law_draw.F.kp L.a__law_draw.b .nil pass0 (pa_cons (pe_call (ok__law_cell L) (hr.mono (by decide)) rfl L.a__law_cell.g L.a__law_cell.F.kp L.a__law_cell.b .nil pass0 (pa_cons (pv 1) (pa_cons pe_int pa_nil))) (pa_cons (pv 0) (pa_cons (pe_callB (call_len_seqK (K := K) rfl) (by rfl) T.len PySem.boot_len (pa_cons (pv 2) pa_nil)) pa_nil))))))) pss_nil)
        (pss_cons (ps_set (i := 5) sc_law.nd rfl (Or.inl rfl) (pe_callTy call_list_of (by rfl) T.list bList (pa_cons (pv 2) pa_nil)))
        (pss_cons (ps_for PassesOwn.never rfl (pi_list (pv 4)) (pg_name (i := 6) sc_law.nd rfl (Or.inl rfl)) (pss_one (ps_asg (pe_call (ok__law_odd_word L) (hr.mono (by decide)) rfl L.a__law_odd_word.g L.a__law_odd_word.F.kp L.a__law_odd_word.b .nil pass0 (pa_cons (pe_op op_add (pe_call (ok__law_cell L) (hr.mono (by decide)) rfl L.a__law_cell.g L.a__law_cell.F.kp L.a__law_cell.b .nil pass0 (pa_cons (pv 0) (pa_cons pe_int pa_nil))) (pv 6)) (pa_cons (pv 1) pa_nil))) (pg_sub (pv 5) (pv 6) set_list))))
        (pss_cons (ps_set (i := 7) sc_law.nd rfl (Or.inl rfl) (pv 1))
        (pss_cut (ps_set (i := 8) sc_law.nd rfl (Or.inl rfl) (pe_and (pe_cmpR op_ne (pv 3) pe_int (nomark _)) (pe_one (pe_or (pe_cmpR op_ne (pv 3) pe_int (nomark _)) (pe_one (pe_cmpR op_eq (pe_op op_mod (pe_op op_fdiv (pe_call (ok__law_cell L) (hr.mono (by decide)) rfl L.a__law_cell.g L.a__law_cell.F.kp L.a__law_cell.b .nil pass0 (pa_cons (pv 0) (pa_cons pe_int pa_nil))) pe_int) pe_int) pe_int (nomark _)))))))
        (pss_cut (ps_if (pt_not (pt_val (pv 8))) (pss_one (ps_set (i := 7) sc_law.nd rfl (Or.inl rfl) (pe_call (ok__law_odd_signs L) (hr.mono (by decide)) rfl L.a__law_odd_signs.g L.a__law_odd_signs.F.kp L.a__law_odd_signs.b .nil pass0 (pa_cons (pe_call (ok__law_cell L) (hr.mono (by decide)) rfl L.a__law_cell.g L.a__law_cell.F.kp L.a__law_cell.b .nil pass0 (pa_cons (pv 0) (pa_cons pe_int pa_nil))) (pa_cons (pv 1) pa_nil))))) pss_nil)
        (pss_cons (ps_set (i := 9) sc_law.nd rfl (Or.inl rfl) (pe_callTy call_list_of (by rfl) T.list bList (pa_cons (pv 5) pa_nil)))
        (pss_cons (ps_set (i := 10) sc_law.nd rfl (Or.inl rfl) (pe_call (ok__law_due L) (hr.mono (by decide)) rfl L.a__law_due.g L.a__law_due.F.kp L.a__law_due.b .nil pass0 (pa_cons (pv 8) (pa_cons (pv 2) (pa_cons (pv 4) pa_nil)))))
        (pss_cons (ps_for PassesOwn.never rfl (pi_range1 rfl T.range (pa_cons pe_int pa_nil)) (pg_name (i := 11) sc_law.nd rfl (Or.inl rfl)) (pss_cons (ps_set (i := 12) sc_law.nd rfl (Or.inl rfl) (pe_call (ok__law_told L) (hr.mono (by decide)) rfl L.a__law_told.g L.a__law_told.F.kp L.a__law_told.b .nil pass0 (pa_cons (pv 7) (pa_cons (pv 5) pa_nil))))
        (pss_cons (ps_if (PW.pt (pw_or (pt_cmpR (op_neSame hu0) (pv 5) (pv 9) (nomark _)) (pw_or1 (pt_cmpR op_ne (pe_ix ix_tup (pv 12) pe_int (fun _ _ => rfl)) (pe_ix ix_tup (pv 10) pe_int (fun _ _ => rfl)) (nomark _))))) (pss_one (ps_ret pe_bl)) pss_nil)
        (pss_cons (ps_if (PW.pt (pw_and (pt_cmpR op_gt (pe_ix ix_tup (pv 10) pe_int (fun _ _ => rfl)) pe_int (nomark _)) (pw_and1 (pt_cmpR (op_neT hu0) (pe_ix ix_tup (pv 12) pe_int (fun _ _ => rfl)) (pe_ix ix_tup (pv 10) pe_int (fun _ _ => rfl)) (nomark _))))) (pss_one (ps_ret pe_bl)) pss_nil)
        (pss_one (ps_if (pt_cmpR op_eq (pe_ix ix_tup (pv 10) pe_int (fun _ _ => rfl)) pe_int (nomark _)) (pss_cons (ps_if (pt_not (pt_val (pe_call (ok__law_good L) (hr.mono (by decide)) rfl L.a__law_good.g L.a__law_good.F.kp L.a__law_good.b .nil pass0 (pa_cons (pe_ix ix_tup (pv 12) pe_int (fun _ _ => rfl)) (pa_cons (pv 1) (pa_cons (pv 2) pa_nil)))))) (pss_one (ps_ret pe_bl)) pss_nil)
        (pss_cons (ps_expr (pe_bm PySem.F.plainAttrs_list PySem.F.slot_list_append PySem.F.type_list_append mt_append (pv 5) (pa_cons pe_str pa_nil)))
        (pss_cons (ps_if (pt_not (pt_val (pe_call (ok__law_good L) (hr.mono (by decide)) rfl L.a__law_good.g L.a__law_good.F.kp L.a__law_good.b .nil pass0 (pa_cons (pe_ix ix_tup (pv 12) pe_int (fun _ _ => rfl)) (pa_cons (pv 1) (pa_cons (pv 2) pa_nil)))))) (pss_one (ps_ret pe_bl)) pss_nil)
        (pss_one (ps_expr (pe_bm0 PySem.F.plainAttrs_list PySem.F.slot_list_pop PySem.F.type_list_pop mt_pop (pv 5))))))) pss_nil))))))
        (pss_one (ps_ret pe_bl))))))))))))))), ?_⟩
    refine ⟨_, rfl, a, ns, 0, rfl, hS, by decide, _, rfl, fun g H1 sg s1 => ?_⟩
    have g1 : 1 ≤ g.length := by have := sg.lo; omega
    have g2 : g.length ≤ 10 := by have := sg.hi; omega
    refine ⟨_, rfl, _, rfl, a, ns, 2, g, 9, rfl, s1.seq hS, by decide, by decide, by decide, g1, g2, fun l2 ws H2 s2 f2 h2 hl2 hw2 => ?_⟩
    have s02 := s1.trans s2
    have hul : ws.length ≤ 9 := by omega
    have w5 : ∀ w ∈ ws, w.length ≤ 5 := fun w h => (hw2 w h).hi
    refine ⟨_, rfl, a, ns, 1, rfl, s02.seq hS, by decide, _, _, rfl, rfl, (by show (0 : Int) < 8; decide), ?_⟩
    show gName 3 (V.int (cellN ns 1 % 8)) _ _ _
    generalize cellN ns 1 % 8 = way
    refine ⟨Nat.zero_le _, fun lo hlo => ?_⟩
    have sO : Same H2 (upd H2 lo (.lst [])) := Same.upd hlo
    have hO : (upd H2 lo (.lst [])) lo = some (.lst []) := upd_same
    generalize upd H2 lo (.lst []) = H3 at sO hO
    -- the odd places
    refine ⟨fun σ' H' => ∃ (lo : Addr) (os : List Int), σ' = [some (.ref a), some (.str g), some (.ref l2), some (.int way), some (.ref lo), none, none, none, none, none, none, none, none] ∧ Same H2 H' ∧ H' lo = some (.lst (os.map V.int)) ∧ (∀ o ∈ os, 0 ≤ o ∧ o < (ws.length : Int)) ∧ os.length ≤ 2, ?_, ?_⟩
    · have skip : ∀ {H' : Hp}, Same H3 H' → ∃ (lo' : Addr) (os : List Int), ([some (.ref a), some (.str g), some (.ref l2), some (.int way), some (.ref lo), none, none, none, none, none, none, none, none] : St) = [some (.ref a), some (.str g), some (.ref l2), some (.int way), some (.ref lo'), none, none, none, none, none, none, none, none] ∧ Same H2 H' ∧ H' lo' = some (.lst (os.map V.int)) ∧ (∀ o ∈ os, 0 ≤ o ∧ o < (ws.length : Int)) ∧ os.length ≤ 2 := fun s => ⟨lo, [], rfl, sO.trans s, s _ _ hO, (fun o h => nomatch h), by decide⟩
      refine ⟨_, rfl, _, _, rfl, rfl, _, rfl, ite2 (fun _ => ?_) (fun _ => skip (Same.refl _))⟩
      refine ⟨_, rfl, _, _, rfl, rfl, _, rfl, ite2 (fun _ => ?_) (fun _ => skip (Same.refl _))⟩
      refine ⟨_, rfl, Nat.zero_le _, fun le hle => ?_⟩
      have sE : Same H3 (upd H3 le (.lst [])) := Same.upd hle
      refine ⟨l2, le, _, _, rfl, rfl, SqL.of ((sO.trans sE) _ _ h2), SqL.of upd_same, flat_strs _, rfl, _, rfl, ite2 (fun hne => ?_) (fun _ => skip sE)⟩
      have hw0 : 0 < ws.length := by
        cases ws with
        | nil => cases hne
        | cons w ws => exact Nat.succ_pos _
      have m0 := Int.emod_nonneg way (show (2 : Int) ≠ 0 by decide)
      have m1 := Int.emod_lt_of_pos way (show (0 : Int) < 2 by decide)
      refine ⟨_, rfl, _, _, rfl, rfl, (by show (0 : Int) < 2; decide), _, _, rfl, rfl, _, rfl, by omega, by omega, fun lc hlc => ?_⟩
      have sE2 := sO.trans sE
      refine comp_rel (fun y => ∃ o : Int, y = .int o ∧ (0 ≤ o ∧ o < (ws.length : Int))) (itIs_range 0 (1 + way % 2).toNat) hlc (by rw [List.length_map, List.length_range]; exact small16 (by omega)) (fun _ _ => trivial) (fun x H5 Q' hx s5 q => ?_) (fun ys H5 s5 hlen5 hR h5 => ?_)
      · obtain ⟨j, hj, rfl⟩ := List.mem_map.mp hx
        have hj' : j < (1 + way % 2).toNat := List.mem_range.mp hj
        exact ⟨_, rfl, a, ns, 1, rfl, ((s02.trans sE2).trans s5).seq hS, by decide, _, rfl, _, rfl, l2, _, rfl, .inl (SqL.of ((sE2.trans s5) _ _ h2)), _, 0 + (j : Int), _, rfl, by omega, by omega, by rw [List.length_map]; omega, fun d q0 q1 => q _ H5 ⟨_, rfl, q0, by rw [List.length_map] at q1; exact q1⟩ (Same.refl _)⟩
      obtain ⟨os, rfl, hos⟩ := ints_of hR
      rw [List.length_map, List.length_map, List.length_range] at hlen5
      exact ⟨lc, os, rfl, sE2.trans s5, h5, hos, by omega⟩
    clear sO hO hlo
    rintro σ' H3 ⟨lo, os, rfl, s3, hO, hos, hol⟩
    have h32 := s3 _ _ h2
    -- what is handed
    refine ⟨_, rfl, l2, _, rfl, .inl (SqL.of h32), fun lh hlh => ?_⟩
    have sB : Same H3 (upd H3 lh (.lst (ws.map V.str))) := Same.upd hlh
    have hB : (upd H3 lh (.lst (ws.map V.str))) lh = some (.lst (ws.map V.str)) := upd_same
    generalize upd H3 lh (.lst (ws.map V.str)) = Hb at sB hB
    have n2 : l2 ≠ lh := ne_of_none h32 hlh
    have no : lo ≠ lh := ne_of_none hO hlh
    refine ⟨_, rfl, lo, rfl, ⟨_, SqL.of (sB _ _ hO)⟩, for_list (K := K) (a := lo) (xs := os.map V.int) (fun i σ H4 => ∃ (v6 : Option V) (xs : List V), σ = [some (.ref a), some (.str g), some (.ref l2), some (.int way), some (.ref lo), some (.ref lh), v6, none, none, none, none, none, none] ∧ H4 lh = some (.lst xs) ∧ xs.length = ws.length ∧ (∀ c o, Hb c = some o → c ≠ lh → H4 c = some o) ∧ (∀ (j : Nat) x, xs[j]? = some x → ((j : Int) ∈ os.take i ∧ Odd g lh H4 x) ∨ ((j : Int) ∉ os.take i ∧ ∃ w, ws[j]? = some w ∧ x = .str w)))
      ⟨none, _, rfl, hB, by rw [List.length_map], fun c o e _ => e, fun j x hx => .inr ⟨(by simp), by
        rw [List.getElem?_map] at hx
        cases e : ws[j]? with
        | none => rw [e] at hx; cases hx
        | some w => rw [e] at hx; cases hx; exact ⟨w, rfl, rfl⟩⟩⟩ (fun i σ H4 _ ⟨_, _, _, _, _, kk, _⟩ => SqL.of (kk _ _ (sB _ _ hO) no)) ?_ ?_⟩
    · rintro i y σ H4 hy ⟨v6, xs, rfl, h4, hxl, kk, hx⟩
      have hil : i < os.length := by have := (List.getElem?_eq_some_iff.mp hy).1; rwa [List.length_map] at this
      rw [List.getElem?_map, List.getElem?_eq_getElem hil] at hy
      cases hy
      have htk : os.take (i + 1) = os.take i ++ [os[i]] := by rw [List.take_add_one, List.getElem?_eq_getElem hil]; rfl
      have hoi := hos os[i] (List.getElem_mem hil)
      generalize os[i] = oi at htk hoi
      obtain ⟨jo, rfl⟩ : ∃ jo : Nat, oi = (jo : Int) := ⟨oi.toNat, by omega⟩
      have s34 : Same H3 H4 := fun c o e => kk _ _ (sB _ _ e) (ne_of_none e hlh)
      refine ⟨_, rfl, a, ns, 13, rfl, ((s02.trans s3).trans s34).seq hS, by decide, _, rfl, _, _, rfl, rfl, _, rfl, _, g, rfl, sg, fun v H5 s5 nv hv => ?_⟩
      have hix : ixN xs.length (jo : Int) = some jo := by
        unfold ixN
        rw [if_pos (by omega), if_pos (by omega), Int.toNat_natCast]
      refine ⟨_, rfl, _, rfl, lh, xs, _, jo, rfl, rfl, s5 _ _ h4, hix, ?_⟩
      have kp : ∀ b o, H5 b = some o → b ≠ lh → (upd H5 lh (.lst (xs.set jo v))) b = some o := fun b o e hb => by rw [upd_ne hb]; exact e
      have kp4 : ∀ b o, H4 b = some o → b ≠ lh → (upd H5 lh (.lst (xs.set jo v))) b = some o := fun b o e hb => kp _ _ (s5 _ _ e) hb
      have vO : Odd g lh H5 v := ⟨nv, hv.imp id fun ⟨r, e, hr⟩ => ⟨r, e, fun z => by rw [z, h4] at hr; cases hr⟩⟩
      refine ⟨_, xs.set jo v, rfl, upd_same, by rw [List.length_set, hxl], fun c o e hc => kp4 _ _ (kk c o e hc) hc, fun j x hj => ?_⟩
      rw [htk]
      by_cases ej : j = jo
      · subst ej
        rw [List.getElem?_set_self (by omega)] at hj
        cases hj
        exact .inl ⟨List.mem_append_right _ (List.mem_singleton.mpr rfl), vO.keep kp⟩
      · rw [List.getElem?_set_ne (fun z => ej z.symm)] at hj
        rcases hx j x hj with ⟨h1, h2⟩ | ⟨h1, h2⟩
        · exact .inl ⟨List.mem_append_left _ h1, h2.keep kp4⟩
        · refine .inr ⟨fun h => ?_, h2⟩
          rcases List.mem_append.mp h with h | h
          · exact h1 h
          · have := List.mem_singleton.mp h
            omega
    rintro σ H4 ⟨v6, xs, rfl, h4, hxl, kk, hx⟩
    rw [List.length_map, List.take_length] at hx
    have s34 : Same H3 H4 := fun c o e => kk _ _ (sB _ _ e) (ne_of_none e hlh)
    have s04 := (s02.trans s3).trans s34
    -- right or not
    refine ⟨_, rfl, ?_⟩
    refine ⟨fun σ' H' => H4 = H' ∧ ∃ r : Bool, σ' = [some (.ref a), some (.str g), some (.ref l2), some (.int way), some (.ref lo), some (.ref lh), v6, some (.str g), some (.bl r), none, none, none, none], ?_, ?_⟩
    · refine ⟨_, rfl, rfl, _, rfl, ite2 (fun _ => ?_) (fun _ => ⟨rfl, _, rfl⟩)⟩
      refine ⟨_, rfl, rfl, _, rfl, ite2 (fun _ => ⟨rfl, _, rfl⟩) (fun _ => ?_)⟩
      exact ⟨_, rfl, a, ns, 1, rfl, s04.seq hS, by decide, _, _, rfl, rfl, ⟨by decide, by decide⟩, _, _, rfl, rfl, (by show (0 : Int) < 2; decide), rfl, rfl, _, rfl⟩
    rintro σ' H' ⟨e', r, rfl⟩
    subst e'
    refine ⟨fun σ' H' => ∃ v, σ' = [some (.ref a), some (.str g), some (.ref l2), some (.int way), some (.ref lo), some (.ref lh), v6, some v, some (.bl r), none, none, none, none] ∧ Same H4 H' ∧ ((r = true ∧ v = .str g) ∨ (r = false ∧ NoSg H' v)), ?_, ?_⟩
    · cases r with
      | true => exact ⟨_, rfl, true, rfl, iteF ⟨_, rfl, Same.refl _, .inl ⟨rfl, rfl⟩⟩⟩
      | false =>
        refine ⟨_, rfl, false, rfl, iteT ?_⟩
        exact ⟨_, rfl, a, ns, 12, rfl, s04.seq hS, by decide, _, rfl, _, g, rfl, sg, fun v H5 s5 nv => ⟨v, rfl, s5, .inr ⟨rfl, nv⟩⟩⟩
    rintro σ' H5 ⟨v, rfl, s5, hv⟩
    have h5l := s5 _ _ h4
    have hx5 : ∀ (j : Nat) x, xs[j]? = some x → ((j : Int) ∈ os ∧ Odd g lh H5 x) ∨ ((j : Int) ∉ os ∧ ∃ w, ws[j]? = some w ∧ x = .str w) := fun j x hj => (hx j x hj).imp (fun h => ⟨h.1, h.2.keep fun b o e _ => s5 _ _ e⟩) id
    -- copied
    refine ⟨_, rfl, lh, _, rfl, .inl (SqL.of h5l), fun lc hlc => ?_⟩
    have sC : Same H5 (upd H5 lc (.lst xs)) := Same.upd hlc
    have hC : (upd H5 lc (.lst xs)) lc = some (.lst xs) := upd_same
    generalize upd H5 lc (.lst xs) = H6 at sC hC
    have s36 := s34.trans (s5.trans sC)
    -- what is due
    refine ⟨_, rfl, _, rfl, _, rfl, r, l2, lo, _, os, rfl, SqL.of (s36 _ _ h32), SqL.of (s36 _ _ hO), by rw [List.length_map]; omega, by omega, fun pd c wv H7 s7 hpd hdue => ?_⟩
    rw [List.length_map] at hdue
    have s57 := sC.trans s7
    have h7l := s57 _ _ h5l
    have h7c := s7 _ _ hC
    have s37 := s36.trans s7
    have h72 := s37 _ _ h32
    have hx7 : ∀ (j : Nat) x, xs[j]? = some x → ((j : Int) ∈ os ∧ Odd g lh H7 x) ∨ ((j : Int) ∉ os ∧ ∃ w, ws[j]? = some w ∧ x = .str w) := fun j x hj => (hx5 j x hj).imp (fun h => ⟨h.1, h.2.keep fun b o e _ => s57 _ _ e⟩) id
    have leaf : ∀ x ∈ xs, okLeaf x = true ∨ ∃ c, x = .ref c := fun x hxm => by
      obtain ⟨j, hj, e⟩ := List.getElem_of_mem hxm
      rcases hx7 j x (by rw [List.getElem?_eq_getElem hj, e]) with ⟨_, _, h | ⟨r, e, _⟩⟩ | ⟨_, w, _, e⟩
      · exact .inl h
      · exact .inr ⟨r, e⟩
      · rw [e]; exact .inl rfl
    have each : ∀ {H' : Hp}, Same H7 H' → ∀ x ∈ xs, (∃ z, x = .str z ∧ Word g z) ∨ NoWd g H' x := fun s x hxm => by
      obtain ⟨j, hj, e⟩ := List.getElem_of_mem hxm
      rcases hx7 j x (by rw [List.getElem?_eq_getElem hj, e]) with ⟨_, h, _⟩ | ⟨_, w, hw, e⟩
      · exact .inr (h.same s)
      · exact .inl ⟨w, e, hw2 w (List.mem_of_getElem? hw)⟩
    refine ⟨2, rfl, by decide, by decide, for_range (lo := 0) (n := 2) (fun i σ H8 => Same H7 H8 ∧ ∃ v11 v12, σ = [some (.ref a), some (.str g), some (.ref l2), some (.int way), some (.ref lo), some (.ref lh), v6, some v, some (.bl r), some (.ref lc), some (.ref pd), v11, v12]) ⟨Same.refl _, none, none, rfl⟩ ?_ ?_⟩
    · rintro i σ H8 hi ⟨s8, v11, v12, rfl⟩
      have h8l := s8 _ _ h7l
      have h8d := s8 _ _ hpd
      rcases hdue with ⟨er, ec, ew⟩ | ⟨er, h6, ec, ew⟩ | ⟨er, h6, hne, ec, hm, hmin⟩ | ⟨er, h6, he, ec, ew⟩
      · -- no signs
        subst er ec ew
        have nv : NoSg H8 v := by
          rcases hv with ⟨e, _⟩ | ⟨_, h⟩
          · cases e
          · exact h.same (s57.trans s8)
        refine ⟨_, rfl, _, rfl, v, lh, xs, rfl, SqL.of h8l, by omega, .inr (.inl ⟨nv, fun pt H9 s9 hpt => ?_⟩)⟩
        have s79 := s8.trans s9
        refine ⟨_, rfl, _, rfl, lh, lc, xs, rfl, rfl, SqL.of (s79 _ _ h7l), SqL.of (s79 _ _ h7c), leaf, false, rfl, iteF ?_⟩
        refine ⟨_, rfl, pt, _, _, _, rfl, rfl, SqT.of hpt, rfl, _, rfl, pd, _, _, _, rfl, rfl, SqT.of (s9 _ _ h8d), rfl, rfl, false, neSelf _, iteF ?_⟩
        refine ⟨_, rfl, pd, _, _, _, rfl, rfl, SqT.of (s9 _ _ h8d), rfl, _, _, rfl, rfl, true, rfl, iteT ?_⟩
        refine ⟨_, rfl, pt, _, _, _, rfl, rfl, SqT.of hpt, rfl, _, rfl, pd, _, _, _, rfl, rfl, SqT.of (s9 _ _ h8d), rfl, rfl, .flat rfl, (fun a e => by cases e), false, rfl, iteF ?_⟩
        refine ⟨_, rfl, pd, _, _, _, rfl, rfl, SqT.of (s9 _ _ h8d), rfl, rfl, false, congrArg V.bl (by decide), iteF ?_⟩
        exact ⟨s79, _, _, rfl⟩
      · -- too many words
        subst er ec ew
        obtain rfl : v = .str g := by
          rcases hv with ⟨_, h⟩ | ⟨e, _⟩
          · exact h
          · cases e
        refine ⟨_, rfl, _, rfl, _, lh, xs, rfl, SqL.of h8l, by omega, .inr (.inr (.inl ⟨g, rfl, sg, each s8, by omega, fun pt H9 s9 hpt => ?_⟩))⟩
        rw [hxl] at hpt
        have s79 := s8.trans s9
        refine ⟨_, rfl, _, rfl, lh, lc, xs, rfl, rfl, SqL.of (s79 _ _ h7l), SqL.of (s79 _ _ h7c), leaf, false, rfl, iteF ?_⟩
        refine ⟨_, rfl, pt, _, _, _, rfl, rfl, SqT.of hpt, rfl, _, rfl, pd, _, _, _, rfl, rfl, SqT.of (s9 _ _ h8d), rfl, rfl, false, neSelf _, iteF ?_⟩
        refine ⟨_, rfl, pd, _, _, _, rfl, rfl, SqT.of (s9 _ _ h8d), rfl, _, _, rfl, rfl, true, rfl, iteT ?_⟩
        refine ⟨_, rfl, pt, _, _, _, rfl, rfl, SqT.of hpt, rfl, _, rfl, pd, _, _, _, rfl, rfl, SqT.of (s9 _ _ h8d), rfl, rfl, .flat rfl, (fun a e => by cases e), false, rfl, iteF ?_⟩
        refine ⟨_, rfl, pd, _, _, _, rfl, rfl, SqT.of (s9 _ _ h8d), rfl, rfl, false, congrArg V.bl (by decide), iteF ?_⟩
        exact ⟨s79, _, _, rfl⟩
      · -- a thing that is no word
        subst er ec
        obtain rfl : v = .str g := by
          rcases hv with ⟨_, h⟩ | ⟨e, _⟩
          · exact h
          · cases e
        have hwv := hos wv hm
        obtain ⟨jw, rfl⟩ : ∃ jw : Nat, wv = (jw : Int) := ⟨wv.toNat, by omega⟩
        have hjx : jw < xs.length := by omega
        have hjw : xs[jw]? = some xs[jw] := List.getElem?_eq_getElem hjx
        have nw : NoWd g H8 xs[jw] := by
          rcases hx7 jw _ hjw with ⟨_, h, _⟩ | ⟨h, _⟩
          · exact h.same s8
          · exact absurd hm h
        refine ⟨_, rfl, _, rfl, _, lh, xs, rfl, SqL.of h8l, by omega, .inr (.inr (.inr ⟨g, jw, _, rfl, sg, each s8, by omega, hjw, nw, fun j y hj hy => ?_, fun pt H9 s9 hpt => ?_⟩))⟩
        · rcases hx7 j y hy with ⟨h, _⟩ | ⟨_, w, hw, e⟩
          · have := hmin _ h
            omega
          · exact ⟨w, e, hw2 w (List.mem_of_getElem? hw)⟩
        have s79 := s8.trans s9
        refine ⟨_, rfl, _, rfl, lh, lc, xs, rfl, rfl, SqL.of (s79 _ _ h7l), SqL.of (s79 _ _ h7c), leaf, false, rfl, iteF ?_⟩
        refine ⟨_, rfl, pt, _, _, _, rfl, rfl, SqT.of hpt, rfl, _, rfl, pd, _, _, _, rfl, rfl, SqT.of (s9 _ _ h8d), rfl, rfl, false, neSelf _, iteF ?_⟩
        refine ⟨_, rfl, pd, _, _, _, rfl, rfl, SqT.of (s9 _ _ h8d), rfl, _, _, rfl, rfl, true, rfl, iteT ?_⟩
        refine ⟨_, rfl, pt, _, _, _, rfl, rfl, SqT.of hpt, rfl, _, rfl, pd, _, _, _, rfl, rfl, SqT.of (s9 _ _ h8d), rfl, rfl, .flat rfl, (fun a e => by cases e), false, rfl, iteF ?_⟩
        refine ⟨_, rfl, pd, _, _, _, rfl, rfl, SqT.of (s9 _ _ h8d), rfl, rfl, false, congrArg V.bl (by decide), iteF ?_⟩
        exact ⟨s79, _, _, rfl⟩
      · -- a good band
        subst er ec ew he
        obtain rfl : v = .str g := by
          rcases hv with ⟨_, h⟩ | ⟨e, _⟩
          · exact h
          · cases e
        have exs : xs = ws.map V.str := by
          refine List.ext_getElem? fun j => ?_
          rw [List.getElem?_map]
          cases e : xs[j]? with
          | none =>
            have := List.getElem?_eq_none_iff.mp e
            rw [List.getElem?_eq_none (by omega)]
            rfl
          | some x =>
            rcases hx7 j x e with ⟨h, _⟩ | ⟨_, w, hw, ew⟩
            · exact absurd h (by simp)
            · rw [hw, ew]
              rfl
        refine ⟨_, rfl, _, rfl, _, lh, xs, rfl, SqL.of h8l, by omega, .inl ⟨g, ws, rfl, exs, sg, h6, hw2, fun pt x ss ls H9 s9 hpt B => ?_⟩⟩
        have s79 := s8.trans s9
        refine ⟨_, rfl, _, rfl, lh, lc, xs, rfl, rfl, SqL.of (s79 _ _ h7l), SqL.of (s79 _ _ h7c), leaf, false, rfl, iteF ?_⟩
        refine ⟨_, rfl, pt, _, _, _, rfl, rfl, SqT.of hpt, rfl, _, rfl, pd, _, _, _, rfl, rfl, SqT.of (s9 _ _ h8d), rfl, rfl, false, neSelf _, iteF ?_⟩
        refine ⟨_, rfl, pd, _, _, _, rfl, rfl, SqT.of (s9 _ _ h8d), rfl, _, _, rfl, rfl, false, rfl, iteF ?_⟩
        refine ⟨_, rfl, pd, _, _, _, rfl, rfl, SqT.of (s9 _ _ h8d), rfl, rfl, true, eqSelf _, iteT ?_⟩
        have h92 := s79 _ _ h72
        refine ⟨_, rfl, pt, _, _, _, rfl, rfl, SqT.of hpt, rfl, _, rfl, _, rfl, x, l2, g, ws, ss, ls, rfl, B.same (newIn_sub _ _), SqL.of h92, by omega, fun w hw => by have := w5 w hw; omega, fun H10 s10 => ⟨true, rfl, iteF ?_⟩⟩
        have s710 := s79.trans s10
        have h10l := s710 _ _ h7l
        refine ⟨_, rfl, .inl ⟨rfl, _, SqL.of h10l⟩, lh, _, _, rfl, rfl, h10l, small1000 (by omega), ?_⟩
        have kp : ∀ b o, H10 b = some o → b ≠ lh → (upd H10 lh (.lst (xs ++ [.str "x"]))) b = some o := fun b o e hb => by rw [upd_ne hb]; exact e
        have h11l : (upd H10 lh (.lst (xs ++ [.str "x"]))) lh = some (.lst (xs ++ [.str "x"])) := upd_same
        generalize upd H10 lh (.lst (xs ++ [.str "x"])) = H11 at kp h11l
        have sN : Same (newIn H8 H9) H11 := fun b o e => by
          have hb : b ≠ lh := fun z => by
            unfold newIn at e
            rw [z, h8l] at e
            cases e
          exact kp _ _ (s10 _ _ (newIn_sub _ _ _ _ e)) hb
        have npt : pt ≠ lh := fun z => by
          rw [z, s79 _ _ h7l] at hpt
          cases hpt
        have hpt11 := kp _ _ (s10 _ _ hpt) npt
        refine ⟨_, rfl, pt, _, _, _, rfl, rfl, SqT.of hpt11, rfl, _, rfl, _, rfl, x, l2, g, ws, ss, ls, rfl, B.same sN, SqL.of (kp _ _ (s10 _ _ h92) n2), by omega, fun w hw => by have := w5 w hw; omega, fun H12 s12 => ⟨true, rfl, iteF ?_⟩⟩
        have h12l := s12 _ _ h11l
        refine ⟨_, rfl, .inl ⟨rfl, _, SqL.of h12l⟩, lh, _, .str "x", rfl, rfl, h12l, by rw [List.length_append, List.length_singleton, Nat.add_sub_cancel, List.getElem?_append_right (Nat.le_refl _), Nat.sub_self]; rfl, ?_⟩
        rw [List.dropLast_concat]
        refine ⟨fun b o e => ?_, _, _, rfl⟩
        by_cases hb : b = lh
        · rw [hb, upd_same]
          rw [hb, h7l] at e
          exact e
        · rw [upd_ne hb]
          exact s12 _ _ (kp _ _ (s710 _ _ e) hb)
    · rintro σ H8 ⟨s8, v11, v12, rfl⟩
      exact k _
end
end K1

set_option Elab.async false
set_option linter.all false
set_option maxRecDepth 100000
set_option maxHeartbeats 4000000
namespace K1
open PySem L2 Bs Sx
theorem all_mk {l : PySem.W.OpenLaw} {w : World} {K : PySem.W.Frag} {h : Heap} {mg : Str → Option Value} {fa : Addr} {x : Str} {t : Tok} (X : K.In h) (G : h.Ns mainGlobals mg) (hfa : mg "law" = some (.ref fa))
    {f_all_among f_are_signs f_is_word f_check_barred f_bears_barred f_sorted_places f_longest_end f_moves_from f_leads_into f_live_among f__law_cell f__law_draw f__law_signs f__law_word f__law_words f__law_odd_signs f__law_odd_word f__law_others f__law_told f__law_good f__law_due f_Band___init__ f_Band_places f_Band_longest c_Band fL c_BandError c_NoSigns c_TooMany f_TooMany___init__ c_NoWord f_NoWord___init__ c_NoRow c_Barred c_NoPlace c_NoNumber c_NoRate c_NoSplit c_NoLength c_Scarce c_Open c_NoData c_NoForm c_NoBand c_NoWriter : Addr}
    (a_all_among : PySem.W.nsIn K mainGlobals "all_among" = some (some (.ref f_all_among))) (r_all_among : Raw K "all_among" "all_among" (top 21) f_all_among)
    (a_are_signs : PySem.W.nsIn K mainGlobals "are_signs" = some (some (.ref f_are_signs))) (r_are_signs : Raw K "are_signs" "are_signs" (top 22) f_are_signs)
    (a_is_word : PySem.W.nsIn K mainGlobals "is_word" = some (some (.ref f_is_word))) (r_is_word : Raw K "is_word" "is_word" (top 23) f_is_word)
    (a_check_barred : PySem.W.nsIn K mainGlobals "check_barred" = some (some (.ref f_check_barred))) (r_check_barred : Raw K "check_barred" "check_barred" (top 24) f_check_barred)
    (a_bears_barred : PySem.W.nsIn K mainGlobals "bears_barred" = some (some (.ref f_bears_barred))) (r_bears_barred : Raw K "bears_barred" "bears_barred" (top 25) f_bears_barred)
    (a_sorted_places : PySem.W.nsIn K mainGlobals "sorted_places" = some (some (.ref f_sorted_places))) (r_sorted_places : Raw K "sorted_places" "sorted_places" (top 26) f_sorted_places)
    (a_longest_end : PySem.W.nsIn K mainGlobals "longest_end" = some (some (.ref f_longest_end))) (r_longest_end : Raw K "longest_end" "longest_end" (top 27) f_longest_end)
    (a_moves_from : PySem.W.nsIn K mainGlobals "moves_from" = some (some (.ref f_moves_from))) (r_moves_from : Raw K "moves_from" "moves_from" (top 28) f_moves_from)
    (a_leads_into : PySem.W.nsIn K mainGlobals "leads_into" = some (some (.ref f_leads_into))) (r_leads_into : Raw K "leads_into" "leads_into" (top 29) f_leads_into)
    (a_live_among : PySem.W.nsIn K mainGlobals "live_among" = some (some (.ref f_live_among))) (r_live_among : Raw K "live_among" "live_among" (top 30) f_live_among)
    (a__law_cell : PySem.W.nsIn K mainGlobals "_law_cell" = some (some (.ref f__law_cell))) (r__law_cell : Raw K "_law_cell" "_law_cell" (top 33) f__law_cell)
    (a__law_draw : PySem.W.nsIn K mainGlobals "_law_draw" = some (some (.ref f__law_draw))) (r__law_draw : Raw K "_law_draw" "_law_draw" (top 34) f__law_draw)
    (a__law_signs : PySem.W.nsIn K mainGlobals "_law_signs" = some (some (.ref f__law_signs))) (r__law_signs : Raw K "_law_signs" "_law_signs" (top 35) f__law_signs)
    (a__law_word : PySem.W.nsIn K mainGlobals "_law_word" = some (some (.ref f__law_word))) (r__law_word : Raw K "_law_word" "_law_word" (top 36) f__law_word)
    (a__law_words : PySem.W.nsIn K mainGlobals "_law_words" = some (some (.ref f__law_words))) (r__law_words : Raw K "_law_words" "_law_words" (top 37) f__law_words)
    (a__law_odd_signs : PySem.W.nsIn K mainGlobals "_law_odd_signs" = some (some (.ref f__law_odd_signs))) (r__law_odd_signs : Raw K "_law_odd_signs" "_law_odd_signs" (top 38) f__law_odd_signs)
    (a__law_odd_word : PySem.W.nsIn K mainGlobals "_law_odd_word" = some (some (.ref f__law_odd_word))) (r__law_odd_word : Raw K "_law_odd_word" "_law_odd_word" (top 39) f__law_odd_word)
    (a__law_others : PySem.W.nsIn K mainGlobals "_law_others" = some (some (.ref f__law_others))) (r__law_others : Raw K "_law_others" "_law_others" (top 40) f__law_others)
    (a__law_told : PySem.W.nsIn K mainGlobals "_law_told" = some (some (.ref f__law_told))) (r__law_told : Raw K "_law_told" "_law_told" (top 41) f__law_told)
    (a__law_good : PySem.W.nsIn K mainGlobals "_law_good" = some (some (.ref f__law_good))) (r__law_good : Raw K "_law_good" "_law_good" (top 42) f__law_good)
    (a__law_due : PySem.W.nsIn K mainGlobals "_law_due" = some (some (.ref f__law_due))) (r__law_due : Raw K "_law_due" "_law_due" (top 43) f__law_due)
    (gc_Band : PySem.W.nsIn K mainGlobals "Band" = some (some (.ref c_Band)))
    (a_Band___init__ : PySem.W.findIn K (.ref c_Band) "__init__" = some (some (.ref f_Band___init__))) (i_Band___init__ : PySem.W.isFn K (.ref f_Band___init__) = true) (r_Band___init__ : Raw K "__init__" "Band.__init__" (inClass (top 31) 0) f_Band___init__)
    (a_Band_places : PySem.W.findIn K (.ref c_Band) "places" = some (some (.ref f_Band_places))) (i_Band_places : PySem.W.isFn K (.ref f_Band_places) = true) (r_Band_places : Raw K "places" "Band.places" (inClass (top 31) 5) f_Band_places)
    (a_Band_longest : PySem.W.findIn K (.ref c_Band) "longest" = some (some (.ref f_Band_longest))) (i_Band_longest : PySem.W.isFn K (.ref f_Band_longest) = true) (r_Band_longest : Raw K "longest" "Band.longest" (inClass (top 31) 9) f_Band_longest)
    (aL : PySem.W.nsIn K mainGlobals "law" = some (some (.ref fL))) (rL : Raw K "law" "law" (top 44) fL)
    (pg_Band : PySem.W.plainGet K c_Band Str.empty = true)
    (hd_Band : PySem.W.hasDictIn K c_Band = true)
    (po_Band : PySem.W.plainOver K c_Band = true)
    (sa_Band : PySem.W.findIn K (.ref c_Band) "__setattr__" = some (some (.builtin "object.__setattr__")))
    (mk_Band : PySem.W.makesIn K c_Band = true)
    (kc_Band : PySem.W.keepIn K (.ref c_Band) = true)
    (n_Band_signs : PySem.W.findIn K (.ref c_Band) "signs" = some none)
    (n_Band_barred : PySem.W.findIn K (.ref c_Band) "barred" = some none)
    (n_Band_moves : PySem.W.findIn K (.ref c_Band) "moves" = some none)
    (n_Band_lasting : PySem.W.findIn K (.ref c_Band) "lasting" = some none)
    (kn : PySem.W.nsIn K mainGlobals "KNOWN_SIGNS" = some (some (.str x t))) (hx : x = poolS)
    (gc_BandError : PySem.W.nsIn K mainGlobals "BandError" = some (some (.ref c_BandError)))
    (xt : XTop K c_BandError "BandError") (xb1 : PySem.W.specialIn K (.ref c_BandError) "__getattribute__" = some (some (.builtin "type.__getattribute__"))) (xb2 : PySem.W.readsIn K c_BandError (.type "type") = true) (xb3 : PySem.W.findCls K (.ref c_BandError) (.type "type") "__init__" = some (.val (.builtin "ValueError.__init__")))
    (gc_NoSigns : PySem.W.nsIn K mainGlobals "NoSigns" = some (some (.ref c_NoSigns)))
    (ux_NoSigns : XRaw K c_NoSigns c_BandError "NoSigns") (us_NoSigns : PySem.W.findIn K (.ref c_NoSigns) "__setattr__" = some (some (.builtin "object.__setattr__"))) (ug_NoSigns : PySem.W.findIn K (.ref c_NoSigns) "__getattribute__" = some (some (.builtin "BaseException.__getattribute__"))) (uh_NoSigns : PySem.W.findIn K (.ref c_NoSigns) "__getattr__" = some none) (uk_NoSigns : PySem.W.keepIn K (.ref c_NoSigns) = true) (uc_NoSigns : PySem.W.findIn K (.ref c_NoSigns) "__class__" = some (some (.builtin "object.__class__")))
    (hi_NoSigns : PySem.W.findIn K (.ref c_NoSigns) "__init__" = some (some (.builtin "ValueError.__init__")))
    (gc_TooMany : PySem.W.nsIn K mainGlobals "TooMany" = some (some (.ref c_TooMany)))
    (ux_TooMany : XRaw K c_TooMany c_BandError "TooMany") (us_TooMany : PySem.W.findIn K (.ref c_TooMany) "__setattr__" = some (some (.builtin "object.__setattr__"))) (ug_TooMany : PySem.W.findIn K (.ref c_TooMany) "__getattribute__" = some (some (.builtin "BaseException.__getattribute__"))) (uh_TooMany : PySem.W.findIn K (.ref c_TooMany) "__getattr__" = some none) (uk_TooMany : PySem.W.keepIn K (.ref c_TooMany) = true) (uc_TooMany : PySem.W.findIn K (.ref c_TooMany) "__class__" = some (some (.builtin "object.__class__")))
    (a_TooMany___init__ : PySem.W.findIn K (.ref c_TooMany) "__init__" = some (some (.ref f_TooMany___init__))) (i_TooMany___init__ : PySem.W.isFn K (.ref f_TooMany___init__) = true) (r_TooMany___init__ : Raw K "__init__" "TooMany.__init__" (inClass (top 4) 0) f_TooMany___init__)
    (n_TooMany_many : PySem.W.findIn K (.ref c_TooMany) "many" = some none)
    (gc_NoWord : PySem.W.nsIn K mainGlobals "NoWord" = some (some (.ref c_NoWord)))
    (ux_NoWord : XRaw K c_NoWord c_BandError "NoWord") (us_NoWord : PySem.W.findIn K (.ref c_NoWord) "__setattr__" = some (some (.builtin "object.__setattr__"))) (ug_NoWord : PySem.W.findIn K (.ref c_NoWord) "__getattribute__" = some (some (.builtin "BaseException.__getattribute__"))) (uh_NoWord : PySem.W.findIn K (.ref c_NoWord) "__getattr__" = some none) (uk_NoWord : PySem.W.keepIn K (.ref c_NoWord) = true) (uc_NoWord : PySem.W.findIn K (.ref c_NoWord) "__class__" = some (some (.builtin "object.__class__")))
    (a_NoWord___init__ : PySem.W.findIn K (.ref c_NoWord) "__init__" = some (some (.ref f_NoWord___init__))) (i_NoWord___init__ : PySem.W.isFn K (.ref f_NoWord___init__) = true) (r_NoWord___init__ : Raw K "__init__" "NoWord.__init__" (inClass (top 5) 0) f_NoWord___init__)
    (n_NoWord_number : PySem.W.findIn K (.ref c_NoWord) "number" = some none)
    (gc_NoRow : PySem.W.nsIn K mainGlobals "NoRow" = some (some (.ref c_NoRow)))
    (ux_NoRow : XRaw K c_NoRow c_BandError "NoRow")
    (gc_Barred : PySem.W.nsIn K mainGlobals "Barred" = some (some (.ref c_Barred)))
    (ux_Barred : XRaw K c_Barred c_BandError "Barred")
    (gc_NoPlace : PySem.W.nsIn K mainGlobals "NoPlace" = some (some (.ref c_NoPlace)))
    (ux_NoPlace : XRaw K c_NoPlace c_BandError "NoPlace")
    (gc_NoNumber : PySem.W.nsIn K mainGlobals "NoNumber" = some (some (.ref c_NoNumber)))
    (ux_NoNumber : XRaw K c_NoNumber c_BandError "NoNumber")
    (gc_NoRate : PySem.W.nsIn K mainGlobals "NoRate" = some (some (.ref c_NoRate)))
    (ux_NoRate : XRaw K c_NoRate c_BandError "NoRate")
    (gc_NoSplit : PySem.W.nsIn K mainGlobals "NoSplit" = some (some (.ref c_NoSplit)))
    (ux_NoSplit : XRaw K c_NoSplit c_BandError "NoSplit")
    (gc_NoLength : PySem.W.nsIn K mainGlobals "NoLength" = some (some (.ref c_NoLength)))
    (ux_NoLength : XRaw K c_NoLength c_BandError "NoLength")
    (gc_Scarce : PySem.W.nsIn K mainGlobals "Scarce" = some (some (.ref c_Scarce)))
    (ux_Scarce : XRaw K c_Scarce c_BandError "Scarce")
    (gc_Open : PySem.W.nsIn K mainGlobals "Open" = some (some (.ref c_Open)))
    (ux_Open : XRaw K c_Open c_BandError "Open")
    (gc_NoData : PySem.W.nsIn K mainGlobals "NoData" = some (some (.ref c_NoData)))
    (ux_NoData : XRaw K c_NoData c_BandError "NoData")
    (gc_NoForm : PySem.W.nsIn K mainGlobals "NoForm" = some (some (.ref c_NoForm)))
    (ux_NoForm : XRaw K c_NoForm c_BandError "NoForm")
    (gc_NoBand : PySem.W.nsIn K mainGlobals "NoBand" = some (some (.ref c_NoBand)))
    (ux_NoBand : XRaw K c_NoBand c_BandError "NoBand")
    (gc_NoWriter : PySem.W.nsIn K mainGlobals "NoWriter" = some (some (.ref c_NoWriter)))
    (ux_NoWriter : XRaw K c_NoWriter c_BandError "NoWriter")
    (yn : PySem.W.specialIn K (.builtin "object.__class__") "__get__" = some (some (.builtin "getset_descriptor.__get__"))) (yt : PySem.W.takesIn K (.builtin "object.__class__") = some true)
    (z_ValueError : PySem.W.nsIn K mainGlobals "ValueError" = some none)
    (z_all : PySem.W.nsIn K mainGlobals "all" = some none)
    (z_any : PySem.W.nsIn K mainGlobals "any" = some none)
    (z_bool : PySem.W.nsIn K mainGlobals "bool" = some none)
    (z_enumerate : PySem.W.nsIn K mainGlobals "enumerate" = some none)
    (z_int : PySem.W.nsIn K mainGlobals "int" = some none)
    (z_isinstance : PySem.W.nsIn K mainGlobals "isinstance" = some none)
    (z_len : PySem.W.nsIn K mainGlobals "len" = some none)
    (z_list : PySem.W.nsIn K mainGlobals "list" = some none)
    (z_max : PySem.W.nsIn K mainGlobals "max" = some none)
    (z_min : PySem.W.nsIn K mainGlobals "min" = some none)
    (z_range : PySem.W.nsIn K mainGlobals "range" = some none)
    (z_set : PySem.W.nsIn K mainGlobals "set" = some none)
    (z_sorted : PySem.W.nsIn K mainGlobals "sorted" = some none)
    (z_str : PySem.W.nsIn K mainGlobals "str" = some none)
    : ∃ fd : FuncData, (∀ (s : Shared) (v : Value), BindsTo s fd ⟨[v], []⟩ [("_law_script", v)]) ∧ ∀ base : Heap, K.In base → base.Ns mainGlobals mg → FnOk l.prog w K mg base CX0 7 fa fd ["_law_script"] (spLaw K) := by
  have e := hfa.symm.trans (PySem.W.mg_of X G aL)
  cases e
  subst hx
  have T : Txt mg := ⟨PySem.W.mg_none_of X G z_ValueError, PySem.W.mg_none_of X G z_all, PySem.W.mg_none_of X G z_any, PySem.W.mg_none_of X G z_bool, PySem.W.mg_none_of X G z_enumerate, PySem.W.mg_none_of X G z_int, PySem.W.mg_none_of X G z_isinstance, PySem.W.mg_none_of X G z_len, PySem.W.mg_none_of X G z_list, PySem.W.mg_none_of X G z_max, PySem.W.mg_none_of X G z_min, PySem.W.mg_none_of X G z_range, PySem.W.mg_none_of X G z_set, PySem.W.mg_none_of X G z_sorted, PySem.W.mg_none_of X G z_str⟩
  obtain ⟨d_all_among, A_all_among⟩ := Raw.at_ (ps := ["text", "signs"]) X G a_all_among r_all_among fun _ _ _ _ _ _ us hl => match us, hl with | [_, _], _ => rfl
  obtain ⟨d_are_signs, A_are_signs⟩ := Raw.at_ (ps := ["thing"]) X G a_are_signs r_are_signs fun _ _ _ _ _ _ us hl => match us, hl with | [_], _ => rfl
  obtain ⟨d_is_word, A_is_word⟩ := Raw.at_ (ps := ["thing", "signs"]) X G a_is_word r_is_word fun _ _ _ _ _ _ us hl => match us, hl with | [_, _], _ => rfl
  obtain ⟨d_check_barred, A_check_barred⟩ := Raw.at_ (ps := ["barred", "signs"]) X G a_check_barred r_check_barred fun _ _ _ _ _ _ us hl => match us, hl with | [_, _], _ => rfl
  obtain ⟨d_bears_barred, A_bears_barred⟩ := Raw.at_ (ps := ["row", "barred"]) X G a_bears_barred r_bears_barred fun _ _ _ _ _ _ us hl => match us, hl with | [_, _], _ => rfl
  obtain ⟨d_sorted_places, A_sorted_places⟩ := Raw.at_ (ps := ["barred"]) X G a_sorted_places r_sorted_places fun _ _ _ _ _ _ us hl => match us, hl with | [_], _ => rfl
  obtain ⟨d_longest_end, A_longest_end⟩ := Raw.at_ (ps := ["row", "places"]) X G a_longest_end r_longest_end fun _ _ _ _ _ _ us hl => match us, hl with | [_, _], _ => rfl
  obtain ⟨d_moves_from, A_moves_from⟩ := Raw.at_ (ps := ["place", "signs", "barred", "places"]) X G a_moves_from r_moves_from fun _ _ _ _ _ _ us hl => match us, hl with | [_, _, _, _], _ => rfl
  obtain ⟨d_leads_into, A_leads_into⟩ := Raw.at_ (ps := ["ends", "lot"]) X G a_leads_into r_leads_into fun _ _ _ _ _ _ us hl => match us, hl with | [_, _], _ => rfl
  obtain ⟨d_live_among, A_live_among⟩ := Raw.at_ (ps := ["moves"]) X G a_live_among r_live_among fun _ _ _ _ _ _ us hl => match us, hl with | [_], _ => rfl
  obtain ⟨d__law_cell, A__law_cell⟩ := Raw.at_ (ps := ["_law_script", "_law_place"]) X G a__law_cell r__law_cell fun _ _ _ _ _ _ us hl => match us, hl with | [_, _], _ => rfl
  obtain ⟨d__law_draw, A__law_draw⟩ := Raw.at_ (ps := ["_law_cell_here", "_law_turn", "_law_many"]) X G a__law_draw r__law_draw fun _ _ _ _ _ _ us hl => match us, hl with | [_, _, _], _ => rfl
  obtain ⟨d__law_signs, A__law_signs⟩ := Raw.at_ (ps := ["_law_cell_here"]) X G a__law_signs r__law_signs fun _ _ _ _ _ _ us hl => match us, hl with | [_], _ => rfl
  obtain ⟨d__law_word, A__law_word⟩ := Raw.at_ (ps := ["_law_cell_here", "_law_signs_here"]) X G a__law_word r__law_word fun _ _ _ _ _ _ us hl => match us, hl with | [_, _], _ => rfl
  obtain ⟨d__law_words, A__law_words⟩ := Raw.at_ (ps := ["_law_script", "_law_at", "_law_signs_here", "_law_most"]) X G a__law_words r__law_words fun _ _ _ _ _ _ us hl => match us, hl with | [_, _, _, _], _ => rfl
  obtain ⟨d__law_odd_signs, A__law_odd_signs⟩ := Raw.at_ (ps := ["_law_cell_here", "_law_signs_here"]) X G a__law_odd_signs r__law_odd_signs fun _ _ _ _ _ _ us hl => match us, hl with | [_, _], _ => rfl
  obtain ⟨d__law_odd_word, A__law_odd_word⟩ := Raw.at_ (ps := ["_law_cell_here", "_law_signs_here"]) X G a__law_odd_word r__law_odd_word fun _ _ _ _ _ _ us hl => match us, hl with | [_, _], _ => rfl
  obtain ⟨d__law_others, A__law_others⟩ := Raw.at_ (ps := ["_law_e"]) X G a__law_others r__law_others fun _ _ _ _ _ _ us hl => match us, hl with | [_], _ => rfl
  obtain ⟨d__law_told, A__law_told⟩ := Raw.at_ (ps := ["_law_signs_here", "_law_words_here"]) X G a__law_told r__law_told fun _ _ _ _ _ _ us hl => match us, hl with | [_, _], _ => rfl
  obtain ⟨d__law_good, A__law_good⟩ := Raw.at_ (ps := ["_law_band", "_law_signs_here", "_law_words_here"]) X G a__law_good r__law_good fun _ _ _ _ _ _ us hl => match us, hl with | [_, _, _], _ => rfl
  obtain ⟨d__law_due, A__law_due⟩ := Raw.at_ (ps := ["_law_signs_right", "_law_words_here", "_law_odd"]) X G a__law_due r__law_due fun _ _ _ _ _ _ us hl => match us, hl with | [_, _, _], _ => rfl
  obtain ⟨d_Band___init__, F_Band___init__, b_Band___init__⟩ := r_Band___init__.fn (ps := ["self", "signs", "barred"]) fun _ _ _ _ _ _ us hl => match us, hl with | [_, _, _], _ => rfl
  obtain ⟨d_Band_places, F_Band_places, b_Band_places⟩ := r_Band_places.fn (ps := ["self"]) fun _ _ _ _ _ _ us hl => match us, hl with | [_], _ => rfl
  obtain ⟨d_Band_longest, F_Band_longest, b_Band_longest⟩ := r_Band_longest.fn (ps := ["self"]) fun _ _ _ _ _ _ us hl => match us, hl with | [_], _ => rfl
  obtain ⟨d_TooMany___init__, F_TooMany___init__, b_TooMany___init__⟩ := r_TooMany___init__.fn (ps := ["self", "many"]) fun _ _ _ _ _ _ us hl => match us, hl with | [_, _], _ => rfl
  obtain ⟨d_NoWord___init__, F_NoWord___init__, b_NoWord___init__⟩ := r_NoWord___init__.fn (ps := ["self", "number"]) fun _ _ _ _ _ _ us hl => match us, hl with | [_, _], _ => rfl
  obtain ⟨⟨oc, od, kV, doc, pm, an, cdv, ct, osl, lk, hc⟩, hk⟩ := rL
  have FL := fun_mk (st := top 44) lk hc hk
  let L : Lk K mg := { T := T, f_all_among := f_all_among, d_all_among := d_all_among, a_all_among := A_all_among, f_are_signs := f_are_signs, d_are_signs := d_are_signs, a_are_signs := A_are_signs, f_is_word := f_is_word, d_is_word := d_is_word, a_is_word := A_is_word, f_check_barred := f_check_barred, d_check_barred := d_check_barred, a_check_barred := A_check_barred, f_bears_barred := f_bears_barred, d_bears_barred := d_bears_barred, a_bears_barred := A_bears_barred, f_sorted_places := f_sorted_places, d_sorted_places := d_sorted_places, a_sorted_places := A_sorted_places, f_longest_end := f_longest_end, d_longest_end := d_longest_end, a_longest_end := A_longest_end, f_moves_from := f_moves_from, d_moves_from := d_moves_from, a_moves_from := A_moves_from, f_leads_into := f_leads_into, d_leads_into := d_leads_into, a_leads_into := A_leads_into, f_live_among := f_live_among, d_live_among := d_live_among, a_live_among := A_live_among, f__law_cell := f__law_cell, d__law_cell := d__law_cell, a__law_cell := A__law_cell, f__law_draw := f__law_draw, d__law_draw := d__law_draw, a__law_draw := A__law_draw, f__law_signs := f__law_signs, d__law_signs := d__law_signs, a__law_signs := A__law_signs, f__law_word := f__law_word, d__law_word := d__law_word, a__law_word := A__law_word, f__law_words := f__law_words, d__law_words := d__law_words, a__law_words := A__law_words, f__law_odd_signs := f__law_odd_signs, d__law_odd_signs := d__law_odd_signs, a__law_odd_signs := A__law_odd_signs, f__law_odd_word := f__law_odd_word, d__law_odd_word := d__law_odd_word, a__law_odd_word := A__law_odd_word, f__law_others := f__law_others, d__law_others := d__law_others, a__law_others := A__law_others, f__law_told := f__law_told, d__law_told := d__law_told, a__law_told := A__law_told, f__law_good := f__law_good, d__law_good := d__law_good, a__law_good := A__law_good, f__law_due := f__law_due, d__law_due := d__law_due, a__law_due := A__law_due, f_Band___init__ := f_Band___init__, d_Band___init__ := d_Band___init__, m_Band___init__ := ⟨F_Band___init__, b_Band___init__, ⟨a_Band___init__, i_Band___init__, r_Band___init__.kp⟩⟩, f_Band_places := f_Band_places, d_Band_places := d_Band_places, m_Band_places := ⟨F_Band_places, b_Band_places, ⟨a_Band_places, i_Band_places, r_Band_places.kp⟩⟩, f_Band_longest := f_Band_longest, d_Band_longest := d_Band_longest, m_Band_longest := ⟨F_Band_longest, b_Band_longest, ⟨a_Band_longest, i_Band_longest, r_Band_longest.kp⟩⟩, c_Band := c_Band, g_Band := PySem.W.mg_of X G gc_Band, cl_Band := ⟨⟨pg_Band, hd_Band, po_Band, sa_Band⟩, n_Band_signs, n_Band_barred, n_Band_moves, n_Band_lasting⟩, mk_Band := ⟨mk_Band, a_Band___init__, i_Band___init__, kc_Band⟩, c_BandError := c_BandError, g_BandError := PySem.W.mg_of X G gc_BandError, XT := xt, XB := ⟨xb1, xb2, xb3⟩, c_NoSigns := c_NoSigns, g_NoSigns := PySem.W.mg_of X G gc_NoSigns, U_NoSigns := ⟨ux_NoSigns.lk, us_NoSigns, ug_NoSigns, uh_NoSigns, uk_NoSigns⟩, Y_NoSigns := ⟨uc_NoSigns, yn, yt⟩, hi_NoSigns := hi_NoSigns, c_TooMany := c_TooMany, g_TooMany := PySem.W.mg_of X G gc_TooMany, U_TooMany := ⟨ux_TooMany.lk, us_TooMany, ug_TooMany, uh_TooMany, uk_TooMany⟩, Y_TooMany := ⟨uc_TooMany, yn, yt⟩, n_TooMany_many := n_TooMany_many, f_TooMany___init__ := f_TooMany___init__, d_TooMany___init__ := d_TooMany___init__, F_TooMany := F_TooMany___init__, b_TooMany := b_TooMany___init__, hi_TooMany := a_TooMany___init__, hf_TooMany := i_TooMany___init__, c_NoWord := c_NoWord, g_NoWord := PySem.W.mg_of X G gc_NoWord, U_NoWord := ⟨ux_NoWord.lk, us_NoWord, ug_NoWord, uh_NoWord, uk_NoWord⟩, Y_NoWord := ⟨uc_NoWord, yn, yt⟩, n_NoWord_number := n_NoWord_number, f_NoWord___init__ := f_NoWord___init__, d_NoWord___init__ := d_NoWord___init__, F_NoWord := F_NoWord___init__, b_NoWord := b_NoWord___init__, hi_NoWord := a_NoWord___init__, hf_NoWord := i_NoWord___init__, c_NoRow := c_NoRow, g_NoRow := PySem.W.mg_of X G gc_NoRow, V_NoRow := ux_NoRow, c_Barred := c_Barred, g_Barred := PySem.W.mg_of X G gc_Barred, V_Barred := ux_Barred, c_NoPlace := c_NoPlace, g_NoPlace := PySem.W.mg_of X G gc_NoPlace, V_NoPlace := ux_NoPlace, c_NoNumber := c_NoNumber, g_NoNumber := PySem.W.mg_of X G gc_NoNumber, V_NoNumber := ux_NoNumber, c_NoRate := c_NoRate, g_NoRate := PySem.W.mg_of X G gc_NoRate, V_NoRate := ux_NoRate, c_NoSplit := c_NoSplit, g_NoSplit := PySem.W.mg_of X G gc_NoSplit, V_NoSplit := ux_NoSplit, c_NoLength := c_NoLength, g_NoLength := PySem.W.mg_of X G gc_NoLength, V_NoLength := ux_NoLength, c_Scarce := c_Scarce, g_Scarce := PySem.W.mg_of X G gc_Scarce, V_Scarce := ux_Scarce, c_Open := c_Open, g_Open := PySem.W.mg_of X G gc_Open, V_Open := ux_Open, c_NoData := c_NoData, g_NoData := PySem.W.mg_of X G gc_NoData, V_NoData := ux_NoData, c_NoForm := c_NoForm, g_NoForm := PySem.W.mg_of X G gc_NoForm, V_NoForm := ux_NoForm, c_NoBand := c_NoBand, g_NoBand := PySem.W.mg_of X G gc_NoBand, V_NoBand := ux_NoBand, c_NoWriter := c_NoWriter, g_NoWriter := PySem.W.mg_of X G gc_NoWriter, V_NoWriter := ux_NoWriter, known := ⟨t, PySem.W.mg_of X G kn⟩ }
  exact ⟨_, fun s v => .of_eq rfl, fun base _ _ => ok_law L FL⟩
theorem walk {l : PySem.W.OpenLaw} {q : Program} {loose : List Str} {XP : (Str → Option Value) → Heap → Prop} {YP : World → Heap → Prop} {d : DefRec} {K : Params → PySem.W.Frag} (hn : l.most = some 63) (hdf : d.params.defaults = [])
    (hY : ∀ (w : World) (h : Heap), YP w h → (K w.params).In h)
    (F : ∀ (w : World) (mg : Str → Option Value) (fa : Addr) (h : Heap), (K w.params).In h → h.Ns mainGlobals mg → mg d.name = some (.ref fa) →
      ∃ fd : FuncData, (∀ (s : Shared) (u : Value), BindsTo s fd ⟨[u], []⟩ [("_law_script", u)]) ∧ ∀ base : Heap, (K w.params).In base → base.Ns mainGlobals mg → FnOk l.prog w (K w.params) mg base CX0 7 fa fd ["_law_script"] (spLaw (K w.params))) :
    PySem.W.WalkO q loose XP YP l.row.toRowW d [] (fun f vs => PySem.call f vs) :=
  L2.walk_of (n := 63) (k := 7) (x := "_law_script") (CX := fun _ => CX0) (sp := fun w => spLaw (K w.params)) hn (by decide) hdf ⟨rfl, by decide, by decide⟩ hY F (fun _ _ a ns hl _ hS => ⟨a, ns, rfl, hS, hl, fun _ => rfl⟩) fun _ _ _ _ _ z => z
end K1
open PySem PySem.W PyProof.Rows
local macro_rules | `(tactic| o_head $H) => `(tactic| (refine PySem.W.holds_open (q := K1.view) (loose := []) (Xt := fun s => PySem.W.xlAt K1.view [] s && PySem.W.recOk (PySem.W.RowW.records (PySem.W.OpenRow.toRowW (PySem.W.OpenLaw.row PySem.Challenge.rw_bandscribe_k01_bands_refused))) s) (XP := PySem.W.XL K1.view []) (Yf := PySem.W.Hook.obs $H) (Ya := PySem.W.Hook.val $H) (YP := PySem.W.Hook.says $H) (N := 8100) ?hl (PySem.W.Hook.of $H) (PySem.W.Hook.keeps $H) (fun s e => PySem.W.xl_of s (Bool.and_eq_true_iff.mp e).1) PySem.W.XL.keeps (by rfl) (by rfl) (by rfl) (fun s e => PySem.W.recFacts_of (Bool.and_eq_true_iff.mp e).2) (by rfl) (by first | assumption | decide +kernel) (by decide +kernel) ⟨rfl, rfl, rfl, rfl, rfl, by decide +kernel⟩ ?hw ?hc; (case hl => (intro w; exact K1.whole w))))
set_option maxRecDepth 100000 in
set_option maxHeartbeats 0 in
theorem PySem.Challenge.cw_bandscribe_k01_bands_refused_holds : PySem.Challenge.rw_bandscribe_k01_bands_refused.Holds := by
  w_on; o_law; o_head (PySem.W.kHook K1.pre.heap_39 K1.addrs (fun _ => by kernel_rfl)); (case hw => w_witness2)
  k_fill
  refine K1.walk (l := PySem.Challenge.rw_bandscribe_k01_bands_refused) rfl rfl (fun w h Y => PySem.W.kIn_of Y) ?F
  case F =>
    intro w mg fa h KX G hmg
    refine' K1.all_mk KX G hmg ?a_all_among (Sx.raw_mk ?l_all_among ?c_all_among ?k_all_among) ?a_are_signs (Sx.raw_mk ?l_are_signs ?c_are_signs ?k_are_signs) ?a_is_word (Sx.raw_mk ?l_is_word ?c_is_word ?k_is_word) ?a_check_barred (Sx.raw_mk ?l_check_barred ?c_check_barred ?k_check_barred) ?a_bears_barred (Sx.raw_mk ?l_bears_barred ?c_bears_barred ?k_bears_barred) ?a_sorted_places (Sx.raw_mk ?l_sorted_places ?c_sorted_places ?k_sorted_places) ?a_longest_end (Sx.raw_mk ?l_longest_end ?c_longest_end ?k_longest_end) ?a_moves_from (Sx.raw_mk ?l_moves_from ?c_moves_from ?k_moves_from) ?a_leads_into (Sx.raw_mk ?l_leads_into ?c_leads_into ?k_leads_into) ?a_live_among (Sx.raw_mk ?l_live_among ?c_live_among ?k_live_among) ?a__law_cell (Sx.raw_mk ?l__law_cell ?c__law_cell ?k__law_cell) ?a__law_draw (Sx.raw_mk ?l__law_draw ?c__law_draw ?k__law_draw) ?a__law_signs (Sx.raw_mk ?l__law_signs ?c__law_signs ?k__law_signs) ?a__law_word (Sx.raw_mk ?l__law_word ?c__law_word ?k__law_word) ?a__law_words (Sx.raw_mk ?l__law_words ?c__law_words ?k__law_words) ?a__law_odd_signs (Sx.raw_mk ?l__law_odd_signs ?c__law_odd_signs ?k__law_odd_signs) ?a__law_odd_word (Sx.raw_mk ?l__law_odd_word ?c__law_odd_word ?k__law_odd_word) ?a__law_others (Sx.raw_mk ?l__law_others ?c__law_others ?k__law_others) ?a__law_told (Sx.raw_mk ?l__law_told ?c__law_told ?k__law_told) ?a__law_good (Sx.raw_mk ?l__law_good ?c__law_good ?k__law_good) ?a__law_due (Sx.raw_mk ?l__law_due ?c__law_due ?k__law_due) ?gc_Band ?a_Band___init__ ?i_Band___init__ (Sx.raw_mk ?l_Band___init__ ?c_Band___init__ ?k_Band___init__) ?a_Band_places ?i_Band_places (Sx.raw_mk ?l_Band_places ?c_Band_places ?k_Band_places) ?a_Band_longest ?i_Band_longest (Sx.raw_mk ?l_Band_longest ?c_Band_longest ?k_Band_longest) ?aL (Sx.raw_mk ?lL ?cL ?kL) ?pg_Band ?hd_Band ?po_Band ?sa_Band ?mk_Band ?kc_Band ?n_Band_signs ?n_Band_barred ?n_Band_moves ?n_Band_lasting ?kn ?hx ?gc_BandError (Sx.xtop_mk ?xtl) ?xb1 ?xb2 ?xb3 ?gc_NoSigns (Sx.xraw_mk ?ul_NoSigns) ?us_NoSigns ?ug_NoSigns ?uh_NoSigns ?uk_NoSigns ?uc_NoSigns ?hi_NoSigns ?gc_TooMany (Sx.xraw_mk ?ul_TooMany) ?us_TooMany ?ug_TooMany ?uh_TooMany ?uk_TooMany ?uc_TooMany ?a_TooMany___init__ ?i_TooMany___init__ (Sx.raw_mk ?l_TooMany___init__ ?c_TooMany___init__ ?k_TooMany___init__) ?n_TooMany_many ?gc_NoWord (Sx.xraw_mk ?ul_NoWord) ?us_NoWord ?ug_NoWord ?uh_NoWord ?uk_NoWord ?uc_NoWord ?a_NoWord___init__ ?i_NoWord___init__ (Sx.raw_mk ?l_NoWord___init__ ?c_NoWord___init__ ?k_NoWord___init__) ?n_NoWord_number ?gc_NoRow (Sx.xraw_mk ?ul_NoRow) ?gc_Barred (Sx.xraw_mk ?ul_Barred) ?gc_NoPlace (Sx.xraw_mk ?ul_NoPlace) ?gc_NoNumber (Sx.xraw_mk ?ul_NoNumber) ?gc_NoRate (Sx.xraw_mk ?ul_NoRate) ?gc_NoSplit (Sx.xraw_mk ?ul_NoSplit) ?gc_NoLength (Sx.xraw_mk ?ul_NoLength) ?gc_Scarce (Sx.xraw_mk ?ul_Scarce) ?gc_Open (Sx.xraw_mk ?ul_Open) ?gc_NoData (Sx.xraw_mk ?ul_NoData) ?gc_NoForm (Sx.xraw_mk ?ul_NoForm) ?gc_NoBand (Sx.xraw_mk ?ul_NoBand) ?gc_NoWriter (Sx.xraw_mk ?ul_NoWriter) ?yn ?yt ?z_ValueError ?z_all ?z_any ?z_bool ?z_enumerate ?z_int ?z_isinstance ?z_len ?z_list ?z_max ?z_min ?z_range ?z_set ?z_sorted ?z_str
    (case a_all_among => k_is); (case l_all_among => k_is); (case c_all_among => k_is); (case k_all_among => k_is); (case a_are_signs => k_is)
    (case l_are_signs => k_is); (case c_are_signs => k_is); (case k_are_signs => k_is); (case a_is_word => k_is); (case l_is_word => k_is)
    (case c_is_word => k_is); (case k_is_word => k_is); (case a_check_barred => k_is); (case l_check_barred => k_is); (case c_check_barred => k_is)
    (case k_check_barred => k_is); (case a_bears_barred => k_is); (case l_bears_barred => k_is); (case c_bears_barred => k_is); (case k_bears_barred => k_is)
    (case a_sorted_places => k_is); (case l_sorted_places => k_is); (case c_sorted_places => k_is); (case k_sorted_places => k_is); (case a_longest_end => k_is)
    (case l_longest_end => k_is); (case c_longest_end => k_is); (case k_longest_end => k_is); (case a_moves_from => k_is); (case l_moves_from => k_is)
    (case c_moves_from => k_is); (case k_moves_from => k_is); (case a_leads_into => k_is); (case l_leads_into => k_is); (case c_leads_into => k_is)
    (case k_leads_into => k_is); (case a_live_among => k_is); (case l_live_among => k_is); (case c_live_among => k_is); (case k_live_among => k_is)
    (case a__law_cell => k_is); (case l__law_cell => k_is); (case c__law_cell => k_is); (case k__law_cell => k_is); (case a__law_draw => k_is)
    (case l__law_draw => k_is); (case c__law_draw => k_is); (case k__law_draw => k_is); (case a__law_signs => k_is); (case l__law_signs => k_is)
    (case c__law_signs => k_is); (case k__law_signs => k_is); (case a__law_word => k_is); (case l__law_word => k_is); (case c__law_word => k_is)
    (case k__law_word => k_is); (case a__law_words => k_is); (case l__law_words => k_is); (case c__law_words => k_is); (case k__law_words => k_is)
    (case a__law_odd_signs => k_is); (case l__law_odd_signs => k_is); (case c__law_odd_signs => k_is); (case k__law_odd_signs => k_is); (case a__law_odd_word => k_is)
    (case l__law_odd_word => k_is); (case c__law_odd_word => k_is); (case k__law_odd_word => k_is); (case a__law_others => k_is); (case l__law_others => k_is)
    (case c__law_others => k_is); (case k__law_others => k_is); (case a__law_told => k_is); (case l__law_told => k_is); (case c__law_told => k_is)
    (case k__law_told => k_is); (case a__law_good => k_is); (case l__law_good => k_is); (case c__law_good => k_is); (case k__law_good => k_is)
    (case a__law_due => k_is); (case l__law_due => k_is); (case c__law_due => k_is); (case k__law_due => k_is); (case gc_Band => k_is)
    (case a_Band___init__ => k_is); (case i_Band___init__ => k_is); (case l_Band___init__ => k_is); (case c_Band___init__ => k_is); (case k_Band___init__ => k_is)
    (case a_Band_places => k_is); (case i_Band_places => k_is); (case l_Band_places => k_is); (case c_Band_places => k_is); (case k_Band_places => k_is)
    (case a_Band_longest => k_is); (case i_Band_longest => k_is); (case l_Band_longest => k_is); (case c_Band_longest => k_is); (case k_Band_longest => k_is)
    (case aL => k_is); (case lL => k_is); (case cL => k_is); (case kL => k_is); (case pg_Band => k_is)
    (case hd_Band => k_is); (case po_Band => k_is); (case sa_Band => k_is); (case mk_Band => k_is); (case kc_Band => k_is)
    (case n_Band_signs => k_is); (case n_Band_barred => k_is); (case n_Band_moves => k_is); (case n_Band_lasting => k_is); (case kn => k_is)
    (case gc_BandError => k_is); (case xtl => k_is); (case xb1 => k_is); (case xb2 => k_is); (case xb3 => k_is)
    (case gc_NoSigns => k_is); (case ul_NoSigns => k_is); (case us_NoSigns => k_is); (case ug_NoSigns => k_is); (case uh_NoSigns => k_is)
    (case uk_NoSigns => k_is); (case uc_NoSigns => k_is); (case hi_NoSigns => k_is); (case gc_TooMany => k_is); (case ul_TooMany => k_is)
    (case us_TooMany => k_is); (case ug_TooMany => k_is); (case uh_TooMany => k_is); (case uk_TooMany => k_is); (case uc_TooMany => k_is)
    (case a_TooMany___init__ => k_is); (case i_TooMany___init__ => k_is); (case l_TooMany___init__ => k_is); (case c_TooMany___init__ => k_is); (case k_TooMany___init__ => k_is)
    (case n_TooMany_many => k_is); (case gc_NoWord => k_is); (case ul_NoWord => k_is); (case us_NoWord => k_is); (case ug_NoWord => k_is)
    (case uh_NoWord => k_is); (case uk_NoWord => k_is); (case uc_NoWord => k_is); (case a_NoWord___init__ => k_is); (case i_NoWord___init__ => k_is)
    (case l_NoWord___init__ => k_is); (case c_NoWord___init__ => k_is); (case k_NoWord___init__ => k_is); (case n_NoWord_number => k_is); (case gc_NoRow => k_is)
    (case ul_NoRow => k_is); (case gc_Barred => k_is); (case ul_Barred => k_is); (case gc_NoPlace => k_is); (case ul_NoPlace => k_is)
    (case gc_NoNumber => k_is); (case ul_NoNumber => k_is); (case gc_NoRate => k_is); (case ul_NoRate => k_is); (case gc_NoSplit => k_is)
    (case ul_NoSplit => k_is); (case gc_NoLength => k_is); (case ul_NoLength => k_is); (case gc_Scarce => k_is); (case ul_Scarce => k_is)
    (case gc_Open => k_is); (case ul_Open => k_is); (case gc_NoData => k_is); (case ul_NoData => k_is); (case gc_NoForm => k_is)
    (case ul_NoForm => k_is); (case gc_NoBand => k_is); (case ul_NoBand => k_is); (case gc_NoWriter => k_is); (case ul_NoWriter => k_is)
    (case yn => k_is); (case yt => k_is); (case z_ValueError => k_is); (case z_all => k_is); (case z_any => k_is)
    (case z_bool => k_is); (case z_enumerate => k_is); (case z_int => k_is); (case z_isinstance => k_is); (case z_len => k_is)
    (case z_list => k_is); (case z_max => k_is); (case z_min => k_is); (case z_range => k_is); (case z_set => k_is)
    (case z_sorted => k_is); (case z_str => k_is)
    (case hx => first | rfl | decide +kernel)
#print axioms PySem.Challenge.cw_bandscribe_k01_bands_refused_holds

