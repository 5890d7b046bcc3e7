import PyProof.Rows.All
import KE.KDictOf
import KE.KIsAll
import KE.KFromBytes
import KE.KDictSum
import KE.KEqDict
import KE.LcSums
import KE.KItem
import Lean
import PyProof.EqAt
import PyProof.EqKinds
import PyProof.TupleCall
import PyProof.Rows.SortStr
import PyProof.StrLawsReplace
import PyProof.StrLawsIdx
import PyProof.StrLawsIn
import PyProof.StrBlockI
import PyProof.StrBlockL
import PyProof.SliceList
import PyProof.InstStoreFacts
import PyProof.NsDelKeeps
import PyProof.StationsW
import PyProof.ExcArgs
import PyProof.ExcBaseAll.ValueError
import PyProof.StrCalls
import PyProof.ListRange
import PyProof.EnumMake
import PyProof.Draws
import PyProof.FactsAll.dict
import PyProof.StrBlock2
import PyProof.Rows.SumAny
import PyProof.NeKinds
import PyProof.Rows.MinMaxN
import PyProof.Rows.Range3
import PyProof.StrLawsFirst
import PyProof.AttrMissHeap
import PyProof.Rows.CallKwBuiltin
import KE.KMinKey
import PySem.Challenge.RW_bandscribe_k32_no_split
set_option Elab.async false
set_option linter.all false
set_option maxRecDepth 100000
set_option maxHeartbeats 4000000
namespace K32
open PySem PySem.W
def tp (i : Nat) : Stmt := PySem.Challenge.pw_bandscribe_k32_no_split.main.body.getD i (.Pass ⟨0, 0, 0, 0⟩)
def view : PySem.Program := { PySem.Challenge.pw_bandscribe_k32_no_split with main := { PySem.Challenge.pw_bandscribe_k32_no_split.main with body := [tp 1, tp 2, tp 3, tp 4, tp 5, tp 6, tp 7, tp 8, tp 9, tp 10, tp 11, tp 12, tp 13, tp 14, tp 15, tp 16, tp 17, tp 19, tp 20, tp 21, tp 22, tp 23, tp 24, tp 26, tp 27, tp 28, tp 29, tp 30, tp 31, tp 32, tp 33, tp 34, tp 35, tp 36] } }
def lhs (as : List Addr) (w : World) := (openEnds treeTable PySem.Challenge.pw_bandscribe_k32_no_split w 8100).map (fun s => (openSeen view [] (importedModules PySem.Challenge.pw_bandscribe_k32_no_split.main.body) (fun s => PySem.W.xlAt view [] s && PySem.W.recOk (PySem.W.RowW.records (PySem.W.OpenRow.toRowW (PySem.W.OpenLaw.row PySem.Challenge.rw_bandscribe_k32_no_split))) s) true s, as.map s.heap.get?))
end K32
lay_quick K32.lhs
section
open PySem PySem.W PyProof.Rows
local macro_rules | `(tactic| o_head $H) => `(tactic| (refine PySem.W.holds_open (q := K32.view) (loose := []) (Xt := fun s => PySem.W.xlAt K32.view [] s && PySem.W.recOk (PySem.W.RowW.records (PySem.W.OpenRow.toRowW (PySem.W.OpenLaw.row PySem.Challenge.rw_bandscribe_k32_no_split))) s) (XP := PySem.W.XL K32.view []) (Yf := PySem.W.Hook.obs $H) (Ya := PySem.W.Hook.val $H) (YP := PySem.W.Hook.says $H) (N := 8100) ?hl (PySem.W.Hook.of $H) (PySem.W.Hook.keeps $H) (fun s e => PySem.W.xl_of s (Bool.and_eq_true_iff.mp e).1) PySem.W.XL.keeps (by rfl) (by rfl) (by rfl) (fun s e => PySem.W.recFacts_of (Bool.and_eq_true_iff.mp e).2) (by rfl) (by first | assumption | decide +kernel) (by decide +kernel) ⟨rfl, rfl, rfl, rfl, rfl, by decide +kernel⟩ ?hw ?hc; (case hl => (intro w; refine Eq.trans (congrFun (congrFun PySem.W.Fast.te15876010189320470517 _) w) ?_; kernel_rfl))))
set_option maxRecDepth 100000 in
set_option maxHeartbeats 0 in
open_top K32.toplaid for PySem.Challenge.rw_bandscribe_k32_no_split
end

set_option Elab.async false
set_option linter.all false
set_option maxRecDepth 100000
/-! THE HAND LAYER, for ints, bools, texts, own classes, LISTS and tuples (index, slices, in, append, pop ..), calls, loops. Paste it whole ahead of your own text; what your proof does not reach may be deleted. -/
namespace L2
open PySem PySem.Spec PyProof.Rows

/-- a key: an int or a str -/
abbrev Key := Sum Int Str
def keyIs : Key → Value → Bool
  | .inl k, v => Value.isInt k v
  | .inr x, v => Value.isStrOf x v
def keyH (w : World) : Key → Int
  | .inl k => hashInt k
  | .inr x => hashStr w x
theorem keyIs_shape : ∀ {k : Key} {v : Value}, keyIs k v = true → (∃ i t, k = Sum.inl i ∧ v = Value.int i t) ∨ (∃ x t, k = Sum.inr x ∧ v = Value.str x t)
  | .inl i, v, h => by
    obtain ⟨t, e⟩ := Value.isInt_shape (k := i) (v := v) h
    exact .inl ⟨i, t, rfl, e⟩
  | .inr x, v, h => by
    obtain ⟨t, e⟩ := Value.isStrOf_shape (x := x) (v := v) h
    exact .inr ⟨x, t, rfl, e⟩
theorem key_ll (a b : Int) : decide ((Sum.inl a : Key) = Sum.inl b) = (a == b) := by
  by_cases e : a = b
  · subst e; simp
  · have h : ¬ (Sum.inl a : Key) = Sum.inl b := fun q => e (Sum.inl.inj q)
    rw [decide_eq_false h]
    exact (beq_eq_false_iff_ne.mpr e).symm
theorem key_rr (a b : Str) : decide ((Sum.inr a : Key) = Sum.inr b) = decide (a = b) := by
  by_cases e : a = b
  · subst e; simp
  · have h : ¬ (Sum.inr a : Key) = Sum.inr b := fun q => e (Sum.inr.inj q)
    rw [decide_eq_false h, decide_eq_false e]
theorem key_lr (a : Int) (b : Str) : decide ((Sum.inl a : Key) = Sum.inr b) = false := decide_eq_false (fun q => nomatch q)
theorem key_rl (a : Str) (b : Int) : decide ((Sum.inr a : Key) = Sum.inl b) = false := decide_eq_false (fun q => nomatch q)

def mixKind (prog : Program) (w : World) : PySem.KeyKind prog w Key where
  is := keyIs
  hash := keyH w
  inj := fun v a b ha hb => by
    rcases keyIs_shape ha with ⟨i, t, rfl, rfl⟩ | ⟨x, t, rfl, rfl⟩
    · rcases keyIs_shape hb with ⟨j, u, rfl, e⟩ | ⟨y, u, rfl, e⟩
      · injection e with e1 _; rw [e1]
      · exact nomatch e
    · rcases keyIs_shape hb with ⟨j, u, rfl, e⟩ | ⟨y, u, rfl, e⟩
      · exact nomatch e
      · injection e with e1 _; rw [e1]
  byValue := fun k v h => by
    rcases keyIs_shape h with ⟨i, t, rfl, rfl⟩ | ⟨x, t, rfl, rfl⟩ <;> rfl
  pyHash := fun hv h => by
    rcases keyIs_shape hv with ⟨i, t, rfl, rfl⟩ | ⟨x, t, rfl, rfl⟩
    · exact wpAny_pyHash_int h
    · exact wpAny_pyHash_str h
  eqBool := fun hu hv h => by
    rcases keyIs_shape hu with ⟨i, t, rfl, rfl⟩ | ⟨x, t, rfl, rfl⟩
    · rcases keyIs_shape hv with ⟨j, u, rfl, rfl⟩ | ⟨y, u, rfl, rfl⟩
      · rw [key_ll] at h; exact wpAny_eqBool_int h
      · rw [key_lr] at h; exact SeqAt.EqAt.int_str i t y u _ _ _ _ h
    · rcases keyIs_shape hv with ⟨j, u, rfl, rfl⟩ | ⟨y, u, rfl, rfl⟩
      · rw [key_rl] at h; exact SeqAt.EqAt.str_int x t j u _ _ _ _ h
      · rw [key_rr] at h; exact wpAny_eqBool_str h
  «strs» := fun k x t v h => by
    rcases keyIs_shape h with ⟨i, u, rfl, e⟩ | ⟨y, u, rfl, e⟩
    · exact nomatch e
    · injection e with e1 _
      subst e1
      cases v <;> rfl

end L2

namespace L2
open PySem PySem.Spec PyProof.Rows

/-- a value, without the heap -/
inductive V where
  | non | bl (b : Bool) | int (i : Int) | str (x : Str) | byt (b : Array UInt8) | flt (b : UInt64) | ref (a : Addr) | ty (n : String)
  deriving DecidableEq

def RelV : V → Value → Prop
  | .non, u => u = Value.none
  | .bl b, u => u = Value.bool b
  | .int i, u => ∃ t, u = Value.int i t
  | .str x, u => ∃ t, u = Value.str x t
  | .byt b, u => ∃ t, u = Value.bytes b t
  | .flt b, u => ∃ t, u = Value.float b t
  | .ref a, u => u = Value.ref a
  | .ty n, u => u = Value.type n

abbrev Vals : List V → List Value → Prop := Paired RelV
theorem Vals.length {xs : List V} {us : List Value} (r : Vals xs us) : xs.length = us.length := Paired.length r
theorem Vals.get : ∀ {xs : List V} {us : List Value} {i : Nat} {x : V}, Vals xs us → xs[i]? = some x → ∃ u, us[i]? = some u ∧ RelV x u
  | _, _, _, _, .nil, e => by simp at e
  | _, _, 0, _, .cons r _, e => by simp at e; subst e; exact ⟨_, rfl, r⟩
  | _, _, i + 1, x, .cons _ t, e => by
    obtain ⟨u, h1, h2⟩ := Vals.get (i := i) (x := x) t (by simpa using e)
    exact ⟨u, by simpa using h1, h2⟩
theorem Vals.set {x : V} {u : Value} (r : RelV x u) : ∀ {xs : List V} {us : List Value} (i : Nat), Vals xs us → Vals (xs.set i x) (us.set i u)
  | _, _, _, .nil => .nil
  | _, _, 0, .cons _ t => .cons r t
  | _, _, i + 1, .cons q t => .cons q (Vals.set r i t)
theorem Vals.append : ∀ {xs ys : List V} {us ws : List Value}, Vals xs us → Vals ys ws → Vals (xs ++ ys) (us ++ ws)
  | _, _, _, _, .nil, s => s
  | _, _, _, _, .cons r t, s => .cons r (Vals.append t s)
theorem Vals.take : ∀ {xs : List V} {us : List Value} (n : Nat), Vals xs us → Vals (xs.take n) (us.take n)
  | _, _, 0, _ => .nil
  | _, _, _ + 1, .nil => .nil
  | _, _, n + 1, .cons r t => .cons r (Vals.take n t)
theorem Vals.drop : ∀ {xs : List V} {us : List Value} (n : Nat), Vals xs us → Vals (xs.drop n) (us.drop n)
  | _, _, 0, r => r
  | _, _, _ + 1, .nil => .nil
  | _, _, n + 1, .cons _ t => Vals.drop n t
theorem Vals.none_of : ∀ {xs : List V} {us : List Value} {i : Nat}, Vals xs us → xs[i]? = none → us[i]? = none := fun {xs us i} r e => by
  have h1 := r.length
  have h2 : xs.length ≤ i := List.getElem?_eq_none_iff.mp e
  exact List.getElem?_eq_none_iff.mpr (by omega)

def RelO : Option V → Option Value → Prop
  | some v, some u => RelV v u
  | none, none => True
  | _, _ => False
def KV {κ : Type} : List (κ × V) → List (κ × Value) → Prop := Paired fun (p : κ × V) (q : κ × Value) => p.1 = q.1 ∧ RelV p.2 q.2

/-- a key of a dict (00_mix): an int or a text -/
def kV : Key → V
  | .inl i => .int i
  | .inr x => .str x

/-- what stands at a tracked address -/
inductive HO where
  /-- a list -/
  | lst (xs : List V)
  /-- a tuple (never changes) -/
  | tup (xs : List V)
  /-- a dict whose keys are ints and texts; one whose keys are tuples of ints and texts (the empty one is both) -/
  | dK (kvs : List (Key × V)) | dT (kvs : List (List Key × V))
  /-- a set of ints: its members, its size -/
  | set (S : Int → Bool) (n : Nat)
  /-- an instance of the class at C, its dict at dx, its attributes -/
  | ins (C dx : Addr) (fs : List (Str × V))
  /-- the dict of the instance at x -/
  | own (x : Addr)
  /-- the dict of an exception -/
  | xd (fs : List (Str × V))
  /-- a bound method, f of x -/
  | met (f x : Addr)
  /-- a range object lo, lo + 1, .. below hi -/
  | rng (lo hi : Int)
  /-- a thing that is known to the object (the script; a dict while a loop walks it): read, never written while it is so -/
  | frz (o : Obj) (u : HO)
  /-- a code object's table -/
  | tbl (ps : Array Value)
  /-- any other thing, by what is true of its one object (a def of one's own: SetO a S n := HO.ext fun h => ..) -/
  | ext (φ : Heap → Prop)

abbrev Hp := Addr → Option HO
def upd (H : Hp) (a : Addr) (o : HO) : Hp := fun b => if b = a then some o else H b
theorem upd_same {H : Hp} {a : Addr} {o : HO} : upd H a o a = some o := by unfold upd; rw [if_pos rfl]
theorem upd_ne {H : Hp} {a b : Addr} {o : HO} (h : b ≠ a) : upd H a o b = H b := by unfold upd; rw [if_neg h]
theorem upd_upd {H : Hp} {a : Addr} {o u : HO} : upd (upd H a o) a u = upd H a u := by
  funext b; unfold upd; split <;> rfl
theorem ne_of_none {H : Hp} {a b : Addr} {o : HO} (h : H a = some o) (h' : H b = none) : a ≠ b := by
  intro e; subst e; rw [h] at h'; cases h'

section
variable (P : Program) (w : World)
def ObjOk (H : Hp) (h : Heap) (a : Addr) : HO → Prop
  | .lst xs => xs.length ≤ sizeLine ∧ ∃ (its : List Value) (n : Nat), Vals xs its ∧ h.get? a = some { cls := .type "list", data := .seq its.toArray n }
  | .tup xs => xs.length ≤ sizeLine ∧ ∃ its : List Value, Vals xs its ∧ IsTup h a its.toArray
  | .dK kvs => kvs.length ≤ sizeLine ∧ (a == sysModules) = false ∧ ∃ vs, KV kvs vs ∧ h.DictOf (mixKind P w) a vs
  | .dT kvs => kvs.length ≤ sizeLine ∧ (a == sysModules) = false ∧ ∃ xs : List (List Key × Addr × Value),
      Paired (fun (p : List Key × V) (q : List Key × Addr × Value) => p.1 = q.1 ∧ H q.2.1 = some (.tup (p.1.map kV)) ∧ RelV p.2 q.2.2) kvs xs ∧
      ∃ o es ep, h.get? a = some o ∧ o.ExactDict ∧ o.data = .dict es ep ∧ es.toList = xs.map (entryOfKey (tupleKind (mixKind P w))) ∧ (xs.map (·.1)).Nodup
  | .set S n => h.SetOf (intKind P w) a S n
  | .ins C dx fs => H dx = some (.own a) ∧ fs.length ≤ 1000 ∧ dx ≠ a ∧ h.get? a = some (PySem.W.instObj C dx) ∧
      ∃ mA, h.Ns1 dx mA ∧ (∀ f, RelO (fs.lookup f) (mA f)) ∧ PySem.Within mA (fs.map (·.1))
  | .own _ => ∃ o, h.get? a = some o
  | .xd fs => ∃ mA, h.Ns1 a mA ∧ ∀ f, RelO (fs.lookup f) (mA f)
  | .rng lo hi => ∃ t u v, h.get? a = some { cls := .type "range", data := .fields #[.int lo t, .int hi u, .int 1 v] }
  | .frz o u => h.get? a = some o ∧ ObjOk H h a u
  | .tbl ps => h.get? a = some { cls := .none, data := .fields ps }
  | .met f x => h.get? a = some (PySem.W.methodObj (.ref f) (.ref x))
  | .ext φ => φ h ∧ (∃ o, h.get? a = some o) ∧ ∀ h1 h2 : Heap, φ h1 → (∀ o, h1.get? a = some o → h2.get? a = some o) → φ h2
/-- the abstract heap is held -/
def HOk (H : Hp) (h : Heap) : Prop := ∀ a o, H a = some o → ObjOk P w H h a o
end

section
variable {P : Program} {w : World} {H H' : Hp} {h h' : Heap} {a : Addr} {o : HO}
theorem ObjOk.lt (x : ObjOk P w H h a o) : a < h.objs.size := by
  cases o with
  | lst xs => obtain ⟨_, _, _, _, e⟩ := x; exact Heap.lt_size e
  | tup xs => obtain ⟨_, _, _, p⟩ := x; exact p.lt
  | dK kvs => obtain ⟨_, _, _, _, o, _, _, e, _⟩ := x; exact Heap.lt_size e
  | dT kvs => obtain ⟨_, _, _, _, o, _, _, e, _⟩ := x; exact Heap.lt_size e
  | set S n => obtain ⟨o, _, _, _, e, _⟩ := x; exact Heap.lt_size e
  | ins C dx fs => obtain ⟨_, _, _, e, _⟩ := x; exact Heap.lt_size e
  | own y => obtain ⟨_, e⟩ := x; exact Heap.lt_size e
  | xd fs => obtain ⟨_, ⟨_, _, _, e, _⟩, _⟩ := x; exact Heap.lt_size e
  | rng lo hi => obtain ⟨_, _, _, e⟩ := x; exact Heap.lt_size e
  | frz ob u => obtain ⟨e, _⟩ := x; exact Heap.lt_size e
  | tbl ps => exact Heap.lt_size (show h.get? a = some _ from x)
  | met f y => exact Heap.lt_size (show h.get? a = some _ from x)
  | ext φ => obtain ⟨_, ⟨_, e⟩, _⟩ := x; exact Heap.lt_size e
theorem Paired.mapP {α β : Type} {F G : α → β → Prop} : ∀ {l₁ : List α} {l₂ : List β}, Paired F l₁ l₂ → (∀ a b, F a b → G a b) → Paired G l₁ l₂
  | _, _, .nil, _ => .nil
  | _, _, .cons r t, f => .cons (f _ _ r) (Paired.mapP t f)
/-- what an object's description leans on: its own object, its own dict, the tuples -/
theorem ObjOk.stay (x : ObjOk P w H h a o) (k : ∀ b u, (b = a ∨ H b = some (.own a)) → h.get? b = some u → h'.get? b = some u)
    (ho : ∀ b, H b = some (.own a) → H' b = some (.own a)) (ht : ∀ b xs, H b = some (.tup xs) → H' b = some (.tup xs)) : ObjOk P w H' h' a o := by
  induction o with
  | lst xs => obtain ⟨z, its, n, r, e⟩ := x; exact ⟨z, its, n, r, k _ _ (.inl rfl) e⟩
  | tup xs => obtain ⟨z, its, r, ob, e, c⟩ := x; exact ⟨z, its, r, ob, k _ _ (.inl rfl) e, c⟩
  | dK kvs => obtain ⟨z, y, vs, r, ob, es, ep, e, c⟩ := x; exact ⟨z, y, vs, r, ob, es, ep, k _ _ (.inl rfl) e, c⟩
  | dT kvs =>
    obtain ⟨z, y, xs, r, ob, es, ep, e, c⟩ := x
    exact ⟨z, y, xs, Paired.mapP r fun p q z => ⟨z.1, ht _ _ z.2.1, z.2.2⟩, ob, es, ep, k _ _ (.inl rfl) e, c⟩
  | set S n => obtain ⟨ob, es, ep, t, e, c⟩ := x; exact ⟨ob, es, ep, t, k _ _ (.inl rfl) e, c⟩
  | ins C dx fs =>
    obtain ⟨d, z, ne, e, mA, ⟨od, es, ep, e2, c⟩, r⟩ := x
    exact ⟨ho _ d, z, ne, k _ _ (.inl rfl) e, mA, ⟨od, es, ep, k _ _ (.inr d) e2, c⟩, r⟩
  | own y => obtain ⟨ob, e⟩ := x; exact ⟨ob, k _ _ (.inl rfl) e⟩
  | xd fs => obtain ⟨mA, ⟨od, es, ep, e, c⟩, r⟩ := x; exact ⟨mA, ⟨od, es, ep, k _ _ (.inl rfl) e, c⟩, r⟩
  | rng lo hi => obtain ⟨t, u, v, e⟩ := x; exact ⟨t, u, v, k _ _ (.inl rfl) e⟩
  | frz ob u ih => obtain ⟨e, q⟩ := x; exact ⟨k _ _ (.inl rfl) e, ih q⟩
  | tbl ps =>
    have e : h.get? a = some { cls := .none, data := .fields ps } := x
    show h'.get? a = some { cls := .none, data := .fields ps }
    exact k a _ (.inl rfl) e
  | met f y =>
    have e : h.get? a = some (PySem.W.methodObj (.ref f) (.ref y)) := x
    show h'.get? a = some (PySem.W.methodObj (.ref f) (.ref y))
    exact k a _ (.inl rfl) e
  | ext φ => obtain ⟨p, ⟨o, e⟩, st⟩ := x; exact ⟨st _ _ p fun o q => k _ _ (.inl rfl) q, ⟨o, k _ _ (.inl rfl) e⟩, st⟩
theorem HOk.lt (x : HOk P w H h) (e : H a = some o) : a < h.objs.size := (x a o e).lt
theorem HOk.fresh (x : HOk P w H h) (e : h.objs.size ≤ a) : H a = none := by
  cases q : H a with
  | none => rfl
  | some u => exact absurd (Nat.lt_of_lt_of_le (x.lt q) e) (Nat.lt_irrefl _)
/-- every object of the heap is kept -/
theorem HOk.kept (x : HOk P w H h) (k : ∀ b u, h.get? b = some u → h'.get? b = some u) : HOk P w H h' := fun a o e =>
  (x a o e).stay (fun b u _ q => k b u q) (fun _ q => q) fun _ _ q => q
/-- a new object is laid and tracked -/
theorem HOk.laid (x : HOk P w H h) (k : ∀ b u, h.get? b = some u → h'.get? b = some u) (hp : h.objs.size ≤ a) (new : ObjOk P w (upd H a o) h' a o) : HOk P w (upd H a o) h' := fun b u e => by
  have hn := x.fresh hp
  by_cases hb : b = a
  · subst hb; rw [upd_same] at e; cases e; exact new
  · rw [upd_ne hb] at e
    exact (x b u e).stay (fun c v _ q => k c v q) (fun c q => by rw [upd_ne (ne_of_none q hn)]; exact q) fun c xs q => by rw [upd_ne (ne_of_none q hn)]; exact q
end

/-- what may be read as u: it is u, or a known u -/
def Rd (H : Hp) (a : Addr) (u : HO) : Prop := H a = some u ∨ ∃ o, H a = some (.frz o u)
theorem Rd.of {H : Hp} {a : Addr} {u : HO} (h : H a = some u) : Rd H a u := .inl h
theorem Rd.ok {P : Program} {w : World} {H : Hp} {h : Heap} {a : Addr} {u : HO} (r : Rd H a u) (x : HOk P w H h) : ObjOk P w H h a u := by
  rcases r with r | ⟨o, r⟩
  · exact x a u r
  · obtain ⟨_, q⟩ := x a _ r
    exact q
/-- what may be written -/
def Mut : Option HO → Prop
  | some (.lst _) => True
  | some (.dK _) => True
  | some (.dT _) => True
  | some (.set _ _) => True
  | some (.ins _ _ _) => True
  | some (.ext _) => True
  | _ => False
section
variable {P : Program} {w : World} {H : Hp} {h h' : Heap} {x e : Addr} {o' : HO}
/-- the object at e is changed: x itself, or the dict of the instance x -/
theorem HOk.write (ok : HOk P w H h) (mu : Mut (H x)) (he : e = x ∨ H e = some (.own x)) (k : ∀ b u, b ≠ e → h.get? b = some u → h'.get? b = some u) (heo : ∃ u, h'.get? e = some u)
    (new : ObjOk P w (upd H x o') h' x o') : HOk P w (upd H x o') h' := fun b u q => by
  have nown : ∀ c y, H c = some (.own y) → c ≠ x := fun c y r z => by subst z; rw [r] at mu; exact mu
  have ntup : ∀ c xs, H c = some (.tup xs) → c ≠ x := fun c xs r z => by subst z; rw [r] at mu; exact mu
  by_cases hb : b = x
  · subst hb; rw [upd_same] at q; cases q; exact new
  · rw [upd_ne hb] at q
    by_cases hbe : b = e
    · have q' : H b = some (.own x) := by
        rcases he with z | z
        · exact absurd (hbe.trans z) hb
        · rw [hbe]; exact z
      rw [q] at q'; cases q'
      obtain ⟨v, hv⟩ := heo
      exact ⟨v, by rw [hbe]; exact hv⟩
    · refine (ok b u q).stay (fun c v hc r => k c v ?_ r) (fun c r => by rw [upd_ne (nown c b r)]; exact r) fun c xs r => by rw [upd_ne (ntup c xs r)]; exact r
      rcases hc with rfl | hc
      · exact hbe
      · rintro rfl
        rcases he with z | z
        · exact nown c b hc z
        · rw [hc] at z; cases z; exact hb rfl
end

/-! ### kept unless tracked; of the frames at fs (the callers') the slots may change (an exception that passes writes there); of the records at ex (iterators) nothing is said -/
structure Un (fs ex : List Addr) (H H' : Hp) (h h' : Heap) : Prop where
  keep : ∀ b o, h.get? b = some o → H b = none → b ∉ fs → b ∉ ex → h'.get? b = some o
  slot : ∀ b o, h.get? b = some o → H b = none → b ∈ fs → b ∉ ex → ∃ sl, h'.get? b = some { o with slots := sl }
  free : ∀ b o, h.get? b = some o → H b = none → b ∉ ex → H' b = none
  there : ∀ b o, h.get? b = some o → b ∉ ex → ∃ o', h'.get? b = some o'
  tups : ∀ b xs, H b = some (.tup xs) → H' b = some (.tup xs)
  frzs : ∀ b o u, H b = some (.frz o u) → H' b = some (.frz o u)
  tbls : ∀ b ps, H b = some (.tbl ps) → ∃ more, H' b = some (.tbl (ps ++ more))
section
variable {fs fs' ex ex' : List Addr} {H H1 H2 : Hp} {h h1 h2 h' : Heap} {a x e : Addr} {o : HO}
theorem Un.any (u : Un fs ex H H1 h h1) {b : Addr} {ob : Obj} (q : h.get? b = some ob) (n : H b = none) (hx : b ∉ ex) : ∃ sl, h1.get? b = some { ob with slots := sl } := by
  by_cases hb : b ∈ fs
  · exact u.slot b ob q n hb hx
  · exact ⟨ob.slots, u.keep b ob q n hb hx⟩
theorem Un.trans (a : Un fs ex H H1 h h1) (b : Un fs ex H1 H2 h1 h2) : Un fs ex H H2 h h2 where
  keep := fun c ob q n hc hx => b.keep c ob (a.keep c ob q n hc hx) (a.free c ob q n hx) hc hx
  slot := fun c ob q n hc hx => by
    obtain ⟨sl, e1⟩ := a.slot c ob q n hc hx
    obtain ⟨sl', e2⟩ := b.slot c _ e1 (a.free c ob q n hx) hc hx
    exact ⟨sl', e2⟩
  free := fun c ob q n hx => by
    obtain ⟨o', e1⟩ := a.there c ob q hx
    exact b.free c o' e1 (a.free c ob q n hx) hx
  there := fun c ob q hx => by
    obtain ⟨o', e1⟩ := a.there c ob q hx
    exact b.there c o' e1 hx
  tups := fun c xs q => b.tups c xs (a.tups c xs q)
  frzs := fun c ob xs q => b.frzs c ob xs (a.frzs c ob xs q)
  tbls := fun c ps q => by
    obtain ⟨m1, e1⟩ := a.tbls c ps q
    obtain ⟨m2, e2⟩ := b.tbls c _ e1
    exact ⟨m1 ++ m2, by rw [e2, Array.append_assoc]⟩
theorem Un.kept (k : ∀ b u, h.get? b = some u → h'.get? b = some u) : Un fs ex H H h h' :=
  ⟨fun b ob q _ _ _ => k b ob q, fun b ob q _ _ _ => ⟨ob.slots, k b ob q⟩, fun _ _ _ n _ => n, fun b ob q _ => ⟨ob, k b ob q⟩, fun _ _ q => q, fun _ _ _ q => q, fun _ ps q => ⟨#[], by rw [q]; simp⟩⟩
theorem Un.refl : Un fs ex H H h h := Un.kept fun _ _ q => q
theorem Un.laid (k : ∀ b u, h.get? b = some u → h'.get? b = some u) (hp : h.objs.size ≤ a) (hn : H a = none) : Un fs ex H (upd H a o) h h' where
  keep := fun b u q _ _ _ => k b u q
  slot := fun b u q _ _ _ => ⟨u.slots, k b u q⟩
  free := fun b u q n _ => by rw [upd_ne (Nat.ne_of_lt (Nat.lt_of_lt_of_le (Heap.lt_size q) hp))]; exact n
  there := fun b u q _ => ⟨u, k b u q⟩
  tups := fun b xs q => by rw [upd_ne (ne_of_none q hn)]; exact q
  frzs := fun b u xs q => by rw [upd_ne (ne_of_none q hn)]; exact q
  tbls := fun b ps q => ⟨#[], by rw [upd_ne (ne_of_none q hn), q]; simp⟩
theorem Un.write (mu : Mut (H x)) (he : e = x ∨ H e = some (.own x)) (k : ∀ b u, b ≠ e → h.get? b = some u → h'.get? b = some u) (heo : ∃ u, h'.get? e = some u) : Un fs ex H (upd H x o) h h' := by
  have hx : ∀ b, H b = none → b ≠ x := fun b n z => by subst z; rw [n] at mu; exact mu
  have hb : ∀ b, H b = none → b ≠ e := fun b n z => by
    subst z
    rcases he with r | r
    · exact hx b n r
    · rw [n] at r; cases r
  have hm : ∀ b u, H b = some u → ¬ Mut (some u) → b ≠ x := fun b u q nm z => by subst z; rw [q] at mu; exact nm mu
  refine ⟨fun b u q n _ _ => k b u (hb b n) q, fun b u q n _ _ => ⟨u.slots, k b u (hb b n) q⟩, fun b u q n _ => by rw [upd_ne (hx b n)]; exact n, fun b u q _ => ?_,
    fun b xs q => by rw [upd_ne (hm b _ q fun z => z)]; exact q, fun b u xs q => by rw [upd_ne (hm b _ q fun z => z)]; exact q, fun b ps q => ⟨#[], by rw [upd_ne (hm b _ q fun z => z), q]; simp⟩⟩
  by_cases hbe : b = e
  · subst hbe; exact heo
  · exact ⟨u, k b u hbe q⟩
theorem Un.mono (u : Un fs ex H H1 h h1) (hs : ∀ b ∈ fs, b ∈ fs') (hx : ∀ b ∈ ex, b ∈ ex') : Un fs' ex' H H1 h h1 :=
  ⟨fun b ob q n hb he => u.keep b ob q n (fun z => hb (hs b z)) fun z => he (hx b z), fun _ _ q n _ he => u.any q n fun z => he (hx _ z), fun b ob q n he => u.free b ob q n fun z => he (hx b z), fun b ob q he => u.there b ob q fun z => he (hx b z), u.tups, u.frzs, u.tbls⟩
end

/-! ### the heap without what is tracked -/
def trk (h : Heap) (H : Hp) : List Addr := (List.range h.objs.size).filter fun a => (H a).isSome
def hidT (h : Heap) (H : Hp) : Heap := PySem.W.hideAll h (trk h H)
theorem hidT_size (h : Heap) (H : Hp) : (hidT h H).objs.size = h.objs.size := PySem.W.hideAll_size _ _
theorem hidT_get {h : Heap} {H : Hp} {b : Addr} {o : Obj} (e : h.get? b = some o) (n : H b = none) : (hidT h H).get? b = some o :=
  PySem.W.hideAll_get _ e fun hm => by
    have q : (H b).isSome = true := (List.mem_filter.mp hm).2
    rw [n] at q; simp at q
theorem of_hidT {h : Heap} {H : Hp} {b : Addr} {o : Obj} (e : (hidT h H).get? b = some o) : h.get? b = some o ∧ H b = none := by
  have e' : h.get? b = some o := PySem.W.of_hideAll (trk h H) e
  refine ⟨e', ?_⟩
  cases q : H b with
  | none => rfl
  | some x =>
    have hm : b ∈ trk h H := List.mem_filter.mpr ⟨List.mem_range.mpr (Heap.lt_size e'), by simp [q]⟩
    have z : (hidT h H).get? b = none := PySem.W.hideAll_none (trk h H) hm
    rw [z] at e; cases e

/-! ### OpenK's ledger, filled with every new object but one -/
def allNews (g h : Heap) (L : Addr) : List (Addr × Obj) := (List.range h.objs.size).filterMap fun a => if a = L ∨ (g.get? a).isSome = true then none else (h.get? a).map fun o => (a, o)
def rest (g h : Heap) (L d : Addr) : List (Addr × Obj) := (allNews g h L).filter fun p => decide (p.1 ≠ d)
end L2

namespace L2
open PySem PySem.Spec PyProof.Rows

/-- the module's facts, over the base: the heap at the law's entry without what is tracked there -/
structure Mod (K : PySem.W.Frag) (mg : Str → Option Value) (base : Heap) : Prop where
  kin : K.In base
  glob : base.Ns mainGlobals mg
  blt : ∃ mb, base.Ns builtinsNs mb ∧ ∀ x : Str, x ≠ "__name__" → mb x = bootBuiltins x
  nolimit : base.NoLimit

/-- the context: a def's body (or a comprehension's block) running. base: fixed through the whole law; s₀, H₀: the entry; outer: the frames whose slots others may change (a def's callers); stack: all frames that run;
   ex: iterators that were made ahead of the entry and are walked here (a comprehension's); fn: the names whose cells were made at the entry (a def: all; a comprehension's block: its own); calm: not within an except suite; pn: pins that every state bears; xe: what is wanted of an exception that leaves the code -/
structure Cx where
  prog : Program
  w : World
  K : PySem.W.Frag
  mg : Str → Option Value
  base : Heap
  A : Around
  N : List Str
  s₀ : Shared
  H₀ : Hp
  env : Env
  outer : List Env
  stack : List Env
  ex : List Addr
  fn : Str → Bool
  calm : Bool
  pn : List (Addr × Obj)
  xe : Value → Shared → Prop
/-- the callers' frames -/
def frs (l : List Env) : List Addr := l.filterMap (·.frame)
abbrev Cx.fs (X : Cx) : List Addr := frs X.outer

def Vis (sc : Scope) (x : Str) : Prop := sc.names.lookup x = some .local ∨ sc.names.lookup x = some .cell ∨ sc.names.lookup x = some .free
def Loc (sc : Scope) (x : Str) : Prop := sc.names.lookup x = some .local ∨ sc.names.lookup x = some .cell
def Look (env : Env) (h : Heap) (m : Str → Option Value) (x : Str) (u : Value) : Prop :=
  (env.kindOf x = some .local ∧ m x = some u) ∨ ((env.kindOf x = some .cell ∨ env.kindOf x = some .free) ∧ ∃ c, env.cells.lookup x = some c ∧ h.IsCell c (some u))

structure Cx.Ok (X : Cx) : Prop where
  mod : Mod X.K X.mg X.base
  kind : X.env.scope.kind = .function
  glob : X.env.globals = mainGlobals
  blt : X.env.builtins = builtinsNs
  above : X.s₀.heap.objs.size ≤ X.env.locals
  inj : ∀ x y c, X.env.cells.lookup x = some c → X.env.cells.lookup y = some c → x = y
  has : ∀ x, (X.env.kindOf x = some .cell ∨ X.env.kindOf x = some .free) → ∃ c, X.env.cells.lookup x = some c
  cab : ∀ x c, X.fn x = true → X.env.cells.lookup x = some c → X.s₀.heap.objs.size ≤ c
  hd : X.calm = true → X.A.handled = none
  frames : X.A.frames = some X.stack
  stk : X.stack = X.outer ∨ (X.stack = X.env :: X.outer ∧ X.env.frame = some X.env.locals)
  exf : ∀ b ∈ X.ex, b ≠ X.env.locals ∧ ∀ x c, X.env.cells.lookup x = some c → c ≠ b
  bs : ∀ b o, X.base.get? b = some o → X.s₀.heap.get? b = some o ∧ X.H₀ b = none
  bsz : X.base.objs.size ≤ X.s₀.heap.objs.size
  noex : ∀ b o, X.base.get? b = some o → b ∉ X.ex
  exfs : ∀ b ∈ X.ex, b ∉ X.fs
  funs : X.s₀.heap.FunFrames X.base X.outer
  frf : ∀ b ∈ X.fs, X.H₀ b = none

structure Inv (X : Cx) (pins : List (Addr × Obj)) (σ : List (Option V)) (H : Hp) (s : Shared) : Prop where
  ok : X.Ok
  os : s.os = X.s₀.os
  bare : AllBare s.gens
  base : Un X.fs X.ex X.H₀ H X.s₀.heap s.heap
  loc : ∃ m, s.heap.Ns X.env.locals m ∧ ∀ (i : Nat) (x : Str) (v : V), X.N[i]? = some x → σ[i]? = some (some v) → Vis X.env.scope x → ∃ u, RelV v u ∧ Look X.env s.heap m x u
  cell : ∀ x c, X.env.cells.lookup x = some c → ∃ v, s.heap.IsCell c v
  free : H X.env.locals = none
  freeC : ∀ x c, X.env.cells.lookup x = some c → H c = none
  pin : ∀ p ∈ X.pn ++ pins, s.heap.get? p.1 = some p.2 ∧ H p.1 = none ∧ p.1 ≠ X.env.locals ∧ p.1 ∉ X.fs ∧ ∀ v, p.2.data ≠ .cell v
  hok : HOk X.prog X.w H s.heap
  len : σ.length = X.N.length

section
variable {X : Cx} {pins : List (Addr × Obj)} {σ : List (Option V)} {H H' : Hp} {s : Shared} {h' : Heap}

theorem Cx.Ok.nofr (ok : X.Ok) {b : Addr} {o : Obj} (e : X.base.get? b = some o) : b ∉ X.fs := fun hb => by
  have := (ok.funs.mem hb).1
  rw [e] at this; cases this
theorem Inv.bs (I : Inv X pins σ H s) : ∀ b o, X.base.get? b = some o → s.heap.get? b = some o ∧ H b = none := fun b o e =>
  ⟨I.base.keep b o (I.ok.bs b o e).1 (I.ok.bs b o e).2 (I.ok.nofr e) (I.ok.noex b o e), I.base.free b o (I.ok.bs b o e).1 (I.ok.bs b o e).2 (I.ok.noex b o e)⟩
theorem Inv.bk (I : Inv X pins σ H s) : ∀ b o, X.base.get? b = some o → s.heap.get? b = some o := fun b o e => (I.bs b o e).1
theorem Inv.mod (I : Inv X pins σ H s) : Mod X.K X.mg X.base := I.ok.mod
theorem Inv.kIn (I : Inv X pins σ H s) : X.K.In s.heap := I.ok.mod.kin.keeps I.bk
theorem Inv.nolimit (I : Inv X pins σ H s) : s.heap.NoLimit := I.ok.mod.nolimit.keeps I.bk
/-- the frame over the base: for OpenK's rules (K.In X.base is I.mod.kin) -/
theorem Inv.fr (I : Inv X pins σ H s) : ∃ m, Fr X.base X.env.locals s.heap m :=
  let ⟨m, hn, _⟩ := I.loc
  ⟨m, hn, I.bk, Nat.le_trans I.ok.bsz I.ok.above⟩
theorem Inv.lt (I : Inv X pins σ H s) : X.env.locals < s.heap.objs.size := let ⟨_, hn, _⟩ := I.loc; hn.lt
theorem Inv.sz (I : Inv X pins σ H s) : X.s₀.heap.objs.size ≤ s.heap.objs.size := Nat.le_trans I.ok.above (Nat.le_of_lt I.lt)
theorem Inv.nofs (I : Inv X pins σ H s) {a : Addr} (h : s.heap.objs.size ≤ a) : a ∉ X.fs := fun hb => by
  obtain ⟨_, o, ho, _⟩ := I.ok.funs.mem hb
  exact absurd (Nat.lt_of_lt_of_le (Heap.lt_size ho) (Nat.le_trans I.sz h)) (Nat.lt_irrefl _)
theorem Inv.cne (I : Inv X pins σ H s) : ∀ x c, X.env.cells.lookup x = some c → c ≠ X.env.locals := fun x c e z => by
  obtain ⟨v, o, ho, hd⟩ := I.cell x c e
  obtain ⟨m, ⟨o', es, ep, ho', hd', _⟩, _⟩ := I.loc
  rw [z, ho'] at ho; cases ho; rw [hd'] at hd; cases hd
theorem Inv.funs (I : Inv X pins σ H s) : s.heap.FunFrames X.base X.outer := by
  have all : ∀ (l : List Env), (∀ b ∈ frs l, b ∈ X.fs) → X.s₀.heap.FunFrames X.base l → s.heap.FunFrames X.base l := by
    intro l
    induction l with
    | nil => intro _ _; trivial
    | cons env r ih =>
      intro hs hl
      obtain ⟨hk, ⟨L, o, hf, hn, ho, hd⟩, hr⟩ := hl
      have hL : L ∈ X.fs := hs L (by unfold frs; rw [List.filterMap_cons, hf]; exact List.mem_cons_self)
      obtain ⟨sl, e⟩ := I.base.slot L o ho (I.ok.frf L hL) hL fun z => I.ok.exfs L z hL
      exact ⟨hk, ⟨L, _, hf, hn, e, hd⟩, ih (fun b hb => hs b (by unfold frs; rw [List.filterMap_cons, hf]; exact List.mem_cons_of_mem _ hb)) hr⟩
  exact all X.outer (fun _ hb => hb) I.ok.funs

/-- the frames that run, for a call -/
theorem Inv.stack (I : Inv X pins σ H s) : s.heap.FunFrames X.base X.stack := by
  rcases I.ok.stk with e | ⟨e, hf⟩
  · rw [e]; exact I.funs
  · rw [e]
    obtain ⟨m, hn, _⟩ := I.loc
    refine .cons (by rw [I.ok.kind]; decide) hf hn ?_ I.funs
    exact Heap.get?_none_of_le (Nat.le_trans I.ok.bsz I.ok.above)
theorem Inv.stkSub (I : Inv X pins σ H s) : ∀ b ∈ frs X.stack, b ∈ X.env.locals :: X.fs := fun b hb => by
  rcases I.ok.stk with e | ⟨e, hf⟩
  · rw [e] at hb; exact List.mem_cons_of_mem _ hb
  · rw [e] at hb
    unfold frs at hb
    rw [List.filterMap_cons, hf] at hb
    exact hb
theorem Inv.stkFree (I : Inv X pins σ H s) : ∀ b ∈ frs X.stack, H b = none := fun b hb => by
  rcases List.mem_cons.mp (I.stkSub b hb) with e | hb
  · rw [e]; exact I.free
  · obtain ⟨_, o, ho, _⟩ := I.ok.funs.mem hb
    exact I.base.free b o ho (I.ok.frf b hb) fun z => I.ok.exfs b z hb

/-- THE STEP: the untracked objects but the frame and the records at ch are kept (the callers' frames up to slots), the frame's map is kept, the new abstract heap is held -/
theorem Inv.step {g' : Array GenState} {t' : Nat} {d' : Drawn} {ch : List Addr} (I : Inv X pins σ H s)
    (hch : ∀ b ∈ ch, (b ∈ X.ex ∨ X.s₀.heap.objs.size ≤ b) ∧ b ≠ X.env.locals ∧ (∀ x c, X.env.cells.lookup x = some c → c ≠ b) ∧ ∀ p ∈ X.pn ++ pins, p.1 ≠ b)
    (keep : ∀ b o, b ≠ X.env.locals → b ∉ X.fs → b ∉ ch → s.heap.get? b = some o → H b = none → h'.get? b = some o)
    (slot : ∀ b o, b ≠ X.env.locals → b ∈ X.fs → b ∉ ch → s.heap.get? b = some o → H b = none → ∃ sl, h'.get? b = some { o with slots := sl }) (free : ∀ b o, b ∉ ch → s.heap.get? b = some o → H b = none → H' b = none)
    (there : ∀ b o, b ∉ ch → s.heap.get? b = some o → ∃ o', h'.get? b = some o')
    (tups : ∀ b xs, H b = some (.tup xs) → H' b = some (.tup xs)) (frzs : ∀ b o u, H b = some (.frz o u) → H' b = some (.frz o u)) (tbls : ∀ b ps, H b = some (.tbl ps) → ∃ more, H' b = some (.tbl (ps ++ more)))
    (ns : ∀ m, s.heap.Ns X.env.locals m → h'.Ns X.env.locals m) (hok : HOk X.prog X.w H' h') (hg : AllBare g') :
    Inv X pins σ H' { s with heap := h', gens := g', drawn := d', toks := t' } := by
  have neL : ∀ b o, X.s₀.heap.get? b = some o → b ≠ X.env.locals := fun b o e => Nat.ne_of_lt (Nat.lt_of_lt_of_le (Heap.lt_size e) I.ok.above)
  have neC : ∀ b o, X.s₀.heap.get? b = some o → b ∉ X.ex → b ∉ ch := fun b o e hx hb => by
    rcases (hch b hb).1 with z | z
    · exact hx z
    · exact absurd (Nat.lt_of_lt_of_le (Heap.lt_size e) z) (Nat.lt_irrefl _)
  have cellK : ∀ x c, X.env.cells.lookup x = some c → ∀ v, s.heap.IsCell c v → h'.IsCell c v := fun x c e v ⟨o, ho, hd⟩ => by
    have nch : c ∉ ch := fun z => (hch c z).2.2.1 x c e rfl
    by_cases hc : c ∈ X.fs
    · obtain ⟨sl, q⟩ := slot c o (I.cne x c e) hc nch ho (I.freeC x c e)
      exact ⟨_, q, hd⟩
    · exact ⟨o, keep c o (I.cne x c e) hc nch ho (I.freeC x c e), hd⟩
  refine ⟨I.ok, I.os, hg, ⟨fun b o e n hb hx => ?_, fun b o e n hb hx => ?_, fun b o e n hx => ?_, fun b o e hx => ?_, fun b xs e => tups b xs (I.base.tups b xs e), fun b o xs e => frzs b o xs (I.base.frzs b o xs e), fun b ps e => ?_⟩, ?_, fun x c e => ?_, ?_, fun x c e => ?_, fun p hp => ?_, hok, I.len⟩
  · exact keep b o (neL b o e) hb (neC b o e hx) (I.base.keep b o e n hb hx) (I.base.free b o e n hx)
  · obtain ⟨sl, e1⟩ := I.base.slot b o e n hb hx
    obtain ⟨sl', e2⟩ := slot b _ (neL b o e) hb (neC b o e hx) e1 (I.base.free b o e n hx)
    exact ⟨sl', e2⟩
  · obtain ⟨o', e1⟩ := I.base.there b o e hx
    exact free b o' (neC b o e hx) e1 (I.base.free b o e n hx)
  · obtain ⟨o', e1⟩ := I.base.there b o e hx
    exact there b o' (neC b o e hx) e1
  · obtain ⟨m1, e1⟩ := I.base.tbls b ps e
    obtain ⟨m2, e2⟩ := tbls b _ e1
    exact ⟨m1 ++ m2, by rw [e2, Array.append_assoc]⟩
  · obtain ⟨m, hn, hl⟩ := I.loc
    refine ⟨m, ns m hn, fun i x v e1 e2 e3 => ?_⟩
    obtain ⟨u, r, l⟩ := hl i x v e1 e2 e3
    refine ⟨u, r, ?_⟩
    rcases l with l | ⟨k, c, e, z⟩
    · exact .inl l
    · exact .inr ⟨k, c, e, cellK x c e _ z⟩
  · obtain ⟨v, z⟩ := I.cell x c e
    exact ⟨v, cellK x c e v z⟩
  · obtain ⟨m, ⟨o, _, _, ho, _⟩, _⟩ := I.loc
    exact free _ o (fun z => (hch _ z).2.1 rfl) ho I.free
  · obtain ⟨v, o, ho, hd⟩ := I.cell x c e
    exact free c o (fun z => (hch c z).2.2.1 x c e rfl) ho (I.freeC x c e)
  · obtain ⟨e, n, ne, nf, d⟩ := I.pin p hp
    have nch : p.1 ∉ ch := fun z => (hch p.1 z).2.2.2 p hp rfl
    exact ⟨keep p.1 p.2 ne nf nch e n, free p.1 p.2 nch e n, ne, nf, d⟩
/-- .. where the frame's own object is kept too -/
theorem Inv.un {t' : Nat} (I : Inv X pins σ H s) (u : Un X.fs [] H H' s.heap h') (hok : HOk X.prog X.w H' h') : Inv X pins σ H' { s with heap := h', toks := t' } := by
  obtain ⟨m, ⟨o, es, ep, ho, r⟩, _⟩ := id I.loc
  obtain ⟨sl, hL⟩ := u.any ho I.free (by simp)
  exact I.step (g' := s.gens) (d' := s.drawn) (ch := []) (fun _ z => nomatch z) (fun b o _ hb _ e n => u.keep b o e n hb (by simp)) (fun b o _ hb _ e n => u.slot b o e n hb (by simp)) (fun b o _ e n => u.free b o e n (by simp)) (fun b o _ e => u.there b o e (by simp)) u.tups u.frzs u.tbls (fun m' hm => by
    obtain ⟨o', es', ep', ho', r'⟩ := hm
    rw [ho] at ho'; cases ho'
    exact ⟨_, es', ep', hL, r'⟩) hok I.bare
/-- behind a call (or a comprehension's block): the slots of this frame may have changed too, the records at ch may have turned -/
theorem Inv.call {g' : Array GenState} {t' : Nat} {d' : Drawn} {ch : List Addr} (I : Inv X pins σ H s) (u : Un (frs X.stack) ch H H' s.heap h') (hok : HOk X.prog X.w H' h') (hg : AllBare g')
    (hch : ∀ b ∈ ch, (b ∈ X.ex ∨ X.s₀.heap.objs.size ≤ b) ∧ b ≠ X.env.locals ∧ (∀ x c, X.env.cells.lookup x = some c → c ≠ b) ∧ ∀ p ∈ X.pn ++ pins, p.1 ≠ b) :
    Inv X pins σ H' { s with heap := h', gens := g', drawn := d', toks := t' } := by
  obtain ⟨m, ⟨o, es, ep, ho, r⟩, _⟩ := id I.loc
  obtain ⟨sl, hL⟩ := u.any ho I.free fun z => (hch _ z).2.1 rfl
  exact I.step (ch := ch) hch (fun b o hL hb hc e n => u.keep b o e n (fun z => (List.mem_cons.mp (I.stkSub b z)).elim hL hb) hc) (fun b o _ _ hc e n => u.any e n hc) (fun b o hc e n => u.free b o e n hc) (fun b o hc e => u.there b o e hc) u.tups u.frzs u.tbls (fun m' hm => by
    obtain ⟨o', es', ep', ho', r'⟩ := hm
    rw [ho] at ho'; cases ho'
    exact ⟨_, es', ep', hL, r'⟩) hok hg
/-- an untracked record of ours (an iterator) has turned -/
theorem Inv.turned {t' : Nat} {it : Addr} (I : Inv X pins σ H s) (k : ∀ b o, b ≠ it → s.heap.get? b = some o → h'.get? b = some o) (hn : H it = none) (hL : it ≠ X.env.locals)
    (h1 : it ∈ X.ex ∨ X.s₀.heap.objs.size ≤ it) (h2 : ∀ x c, X.env.cells.lookup x = some c → c ≠ it) (h3 : ∀ p ∈ X.pn ++ pins, p.1 ≠ it) : Inv X pins σ H { s with heap := h', toks := t' } := by
  have nit : ∀ b u, H b = some u → b ≠ it := fun b u e z => by rw [z, hn] at e; cases e
  refine I.step (g' := s.gens) (d' := s.drawn) (ch := [it]) (fun b hb => ?_) (fun b o _ _ hc e _ => k b o (fun z => hc (by simp [z])) e) (fun b o _ _ hc e _ => ⟨o.slots, k b o (fun z => hc (by simp [z])) e⟩) (fun _ _ _ _ n => n)
    (fun b o hc e => ⟨o, k b o (fun z => hc (by simp [z])) e⟩) (fun _ _ e => e) (fun _ _ _ e => e) (fun b ps e => ⟨#[], by rw [e]; simp⟩) (fun m hm => ?_) (fun b u e => ?_) I.bare
  · have e : b = it := by simpa using hb
    subst e
    exact ⟨h1, hL, h2, h3⟩
  · obtain ⟨o, es, ep, ho, r⟩ := hm
    exact ⟨o, es, ep, k _ o (Ne.symm hL) ho, r⟩
  · refine (I.hok b u e).stay (fun c v hc q => k c v ?_ q) (fun _ q => q) fun _ _ q => q
    rcases hc with z | z
    · rw [z]; exact nit b u e
    · exact nit c _ z
theorem Inv.tok (I : Inv X pins σ H s) (t : Nat) : Inv X pins σ H { s with toks := t } := I.un (h' := s.heap) (t' := t) Un.refl I.hok
/-- all objects kept -/
theorem Inv.kept {t' : Nat} (I : Inv X pins σ H s) (k : ∀ b u, s.heap.get? b = some u → h'.get? b = some u) : Inv X pins σ H { s with heap := h', toks := t' } := I.un (Un.kept k) (I.hok.kept k)
/-- a new object laid and tracked -/
theorem Inv.laid {a : Addr} {o : HO} {t' : Nat} (I : Inv X pins σ H s) (k : ∀ b u, s.heap.get? b = some u → h'.get? b = some u) (hp : s.heap.objs.size ≤ a) (new : ObjOk X.prog X.w (upd H a o) h' a o) :
    Inv X pins σ (upd H a o) { s with heap := h', toks := t' } := I.un (Un.laid k hp (I.hok.fresh hp)) (I.hok.laid k hp new)
/-- an object written -/
theorem Inv.write {x e : Addr} {o : HO} {t' : Nat} (I : Inv X pins σ H s) (mu : Mut (H x)) (he : e = x ∨ H e = some (.own x)) (k : ∀ b u, b ≠ e → s.heap.get? b = some u → h'.get? b = some u) (heo : ∃ u, h'.get? e = some u)
    (new : ObjOk X.prog X.w (upd H x o) h' x o) : Inv X pins σ (upd H x o) { s with heap := h', toks := t' } := I.un (Un.write mu he k heo) (I.hok.write mu he k heo new)
theorem Inv.pins_of {pins' : List (Addr × Obj)} (I : Inv X pins σ H s) (h : ∀ p ∈ pins', s.heap.get? p.1 = some p.2 ∧ H p.1 = none ∧ p.1 ≠ X.env.locals ∧ p.1 ∉ X.fs ∧ ∀ v, p.2.data ≠ .cell v) : Inv X pins' σ H s :=
  ⟨I.ok, I.os, I.bare, I.base, I.loc, I.cell, I.free, I.freeC, fun p hp => (List.mem_append.mp hp).elim (fun z => I.pin p (List.mem_append_left _ z)) (h p), I.hok, I.len⟩

theorem nodup_ix {N : List Str} (hN : N.Nodup) {i j : Nat} {x : Str} (a : N[i]? = some x) (b : N[j]? = some x) : i = j := by
  obtain ⟨h1, e1⟩ := List.getElem?_eq_some_iff.mp a
  obtain ⟨h2, e2⟩ := List.getElem?_eq_some_iff.mp b
  exact (List.getElem_inj hN).mp (e1.trans e2.symm)

/-- a name is stored; what changed -/
theorem store_ok2 {M : Model} {A : Around} {E : Value → Shared → Prop} {i : Nat} {x : Str} {v : V} {u : Value} {Q : Unit → Shared → Prop} (I : Inv X pins σ H s) (hN : X.N.Nodup) (hi : X.N[i]? = some x) (hx : Loc X.env.scope x) (r : RelV v u)
    (h : ∀ s', Inv X pins (σ.set i (some v)) H s' → (∃ a, Heap.SameBut a s.heap s'.heap ∧ (a = X.env.locals ∨ X.env.cells.lookup x = some a)) → Q () s') (hf : X.fn x = true ∨ X.env.scope.names.lookup x = some .local := by first | exact .inl rfl | exact .inr rfl | assumption) : wpAny M A (storeName X.env x u) Q E s := by
  obtain ⟨m, hn, hl⟩ := id I.loc
  have hcls : (X.env.scope.kind == .class || (X.env.scope.kind == .module && X.env.locals != X.env.globals)) = false := by rw [I.ok.kind]; rfl
  have hiσ : i < σ.length := by rw [I.len]; exact (List.getElem?_eq_some_iff.mp hi).1
  have cne := I.cne
  have tracked : ∀ {a : Addr} {h' : Heap}, (∃ o, s.heap.get? a = some o ∧ H a = none) → Heap.SameBut a s.heap h' → HOk X.prog X.w H h' := fun {a h'} ha hs b ob e => by
    obtain ⟨_, _, hfree⟩ := ha
    refine (I.hok b ob e).stay (fun c w' hc q => (hs.2 c ?_).trans q) (fun _ q => q) fun _ _ q => q
    rintro rfl
    rcases hc with rfl | hc
    · rw [hfree] at e; cases e
    · rw [hfree] at hc; cases hc
  rcases hx with hk | hk
  · refine wpAny_storeName_local hk hn (fun h' hn' hs => ?_) hcls
    obtain ⟨oL, _, _, hoL, _⟩ := id hn
    refine h _ ⟨I.ok, I.os, I.bare, ⟨fun b o e n hb hx => ?_, fun b o e n hb hx => ?_, I.base.free, fun b o e hx => ?_, I.base.tups, I.base.frzs, I.base.tbls⟩, ⟨_, hn', fun j y v' e1 e2 e3 => ?_⟩, fun y c e => ?_, I.free, I.freeC, fun p hp => ?_, tracked ⟨oL, hoL, I.free⟩ hs, by simpa using I.len⟩ ⟨_, hs, .inl rfl⟩
    · exact (hs.2 b (Nat.ne_of_lt (Nat.lt_of_lt_of_le (Heap.lt_size e) I.ok.above))).trans (I.base.keep b o e n hb hx)
    · obtain ⟨sl, e1⟩ := I.base.slot b o e n hb hx
      exact ⟨sl, (hs.2 b (Nat.ne_of_lt (Nat.lt_of_lt_of_le (Heap.lt_size e) I.ok.above))).trans e1⟩
    · obtain ⟨o', e1⟩ := I.base.there b o e hx
      exact ⟨o', (hs.2 b (Nat.ne_of_lt (Nat.lt_of_lt_of_le (Heap.lt_size e) I.ok.above))).trans e1⟩
    · by_cases hj : j = i
      · subst hj
        rw [hi] at e1; cases e1
        rw [List.getElem?_set_self hiσ] at e2
        cases e2
        exact ⟨u, r, .inl ⟨hk, by simp⟩⟩
      · rw [List.getElem?_set_ne (Ne.symm hj)] at e2
        obtain ⟨u', r', q⟩ := hl j y v' e1 e2 e3
        refine ⟨u', r', ?_⟩
        rcases q with ⟨k, e⟩ | ⟨k, c, e, z⟩
        · refine .inl ⟨k, ?_⟩
          have : y ≠ x := fun e => hj (nodup_ix hN e1 (e ▸ hi))
          simp [this, e]
        · exact .inr ⟨k, c, e, z.sameBut hs (cne y c e)⟩
    · obtain ⟨w', z⟩ := I.cell y c e
      exact ⟨w', z.sameBut hs (cne y c e)⟩
    · obtain ⟨e, n, ne, nf, d⟩ := I.pin p hp
      exact ⟨(hs.2 p.1 ne).trans e, n, ne, nf, d⟩
  · have hfn : X.fn x = true := by
      rcases hf with z | z
      · exact z
      · rw [z] at hk; cases hk
    obtain ⟨c, hc⟩ := I.ok.has x (.inl hk)
    obtain ⟨w', z⟩ := I.cell x c hc
    refine wpAny_storeName_cell I.ok.kind hk hc z (fun h' hc' hs => ?_)
    obtain ⟨oc, hoc, hocd⟩ := id z
    refine h { s with heap := h' } ⟨I.ok, I.os, I.bare, ⟨fun b o e n hb hx => ?_, fun b o e n hb hx => ?_, I.base.free, fun b o e hx => ?_, I.base.tups, I.base.frzs, I.base.tbls⟩, ⟨m, hn.sameBut hs (Ne.symm (cne x c hc)), fun j y v' e1 e2 e3 => ?_⟩, fun y c' e => ?_, I.free, I.freeC, fun p hp => ?_, tracked ⟨oc, hoc, I.freeC x c hc⟩ hs, by simpa using I.len⟩ ⟨c, hs, .inr hc⟩
    · exact (hs.2 b (Nat.ne_of_lt (Nat.lt_of_lt_of_le (Heap.lt_size e) (I.ok.cab x c hfn hc)))).trans (I.base.keep b o e n hb hx)
    · obtain ⟨sl, e1⟩ := I.base.slot b o e n hb hx
      exact ⟨sl, (hs.2 b (Nat.ne_of_lt (Nat.lt_of_lt_of_le (Heap.lt_size e) (I.ok.cab x c hfn hc)))).trans e1⟩
    · obtain ⟨o', e1⟩ := I.base.there b o e hx
      exact ⟨o', (hs.2 b (Nat.ne_of_lt (Nat.lt_of_lt_of_le (Heap.lt_size e) (I.ok.cab x c hfn hc)))).trans e1⟩
    · by_cases hj : j = i
      · subst hj
        rw [hi] at e1; cases e1
        rw [List.getElem?_set_self hiσ] at e2
        cases e2
        exact ⟨u, r, .inr ⟨.inl hk, c, hc, hc'⟩⟩
      · rw [List.getElem?_set_ne (Ne.symm hj)] at e2
        obtain ⟨u', r', q⟩ := hl j y v' e1 e2 e3
        refine ⟨u', r', ?_⟩
        rcases q with q | ⟨k, c', e, z'⟩
        · exact .inl q
        · refine .inr ⟨k, c', e, z'.sameBut hs ?_⟩
          rintro rfl
          exact hj (nodup_ix hN e1 (I.ok.inj _ _ _ e hc ▸ hi))
    · by_cases hcc : c' = c
      · subst hcc; exact ⟨_, hc'⟩
      · obtain ⟨w2, z2⟩ := I.cell y c' e
        exact ⟨w2, z2.sameBut hs hcc⟩
    · obtain ⟨e, n, ne, nf, d⟩ := I.pin p hp
      refine ⟨(hs.2 p.1 ?_).trans e, n, ne, nf, d⟩
      intro q
      rw [q, hoc] at e
      have q' : oc = p.2 := Option.some.inj e
      exact d w' (by rw [← q']; exact hocd)
theorem store_ok {M : Model} {A : Around} {E : Value → Shared → Prop} {i : Nat} {x : Str} {v : V} {u : Value} {Q : Unit → Shared → Prop} (I : Inv X pins σ H s) (hN : X.N.Nodup) (hi : X.N[i]? = some x) (hx : Loc X.env.scope x) (r : RelV v u)
    (h : ∀ s', Inv X pins (σ.set i (some v)) H s' → Q () s') (hf : X.fn x = true ∨ X.env.scope.names.lookup x = some .local := by first | exact .inl rfl | exact .inr rfl | assumption) : wpAny M A (storeName X.env x u) Q E s :=
  store_ok2 I hN hi hx r (fun s' I' _ => h s' I') hf
/-- behind a call or a block, the state as it is -/
theorem Inv.call' {s' : Shared} {ch : List Addr} (I : Inv X pins σ H s) (ho : s'.os = s.os) (u : Un (frs X.stack) ch H H' s.heap s'.heap) (hok : HOk X.prog X.w H' s'.heap) (hg : AllBare s'.gens)
    (hch : ∀ b ∈ ch, (b ∈ X.ex ∨ X.s₀.heap.objs.size ≤ b) ∧ b ≠ X.env.locals ∧ (∀ x c, X.env.cells.lookup x = some c → c ≠ b) ∧ ∀ p ∈ X.pn ++ pins, p.1 ≠ b) : Inv X pins σ H' s' := by
  obtain ⟨h', g', d', t', o'⟩ := s'
  have e : o' = s.os := ho
  subst e
  exact I.call (g' := g') (t' := t') (d' := d') u hok hg hch
end

/-! ### the judgements -/
/-- an exception: its class, its own dict's address (where it has one), the abstract heap behind it -/
abbrev XK := Value → Option Addr → Hp → Prop
abbrev St := List (Option V)
abbrev VK := V → Hp → Prop
/-- an expression's reading; a test's; an argument list's -/
abbrev TE := St → Hp → VK → Prop
abbrev TT := St → Hp → (Bool → Hp → Prop) → Prop
abbrev TA := St → Hp → (List V → Hp → Prop) → Prop
/-- what is wanted behind a statement -/
structure Ends where
  nx : St → Hp → Prop
  rt : VK
  bk : St → Hp → Prop := fun _ _ => False
  ct : St → Hp → Prop := fun _ _ => False
abbrev TS := Ends → St → Hp → Prop

def EP (X : Cx) (pins : List (Addr × Obj)) (σ : St) (Q : VK) (u : Value) (s' : Shared) : Prop := ∃ v H', Inv X pins σ H' s' ∧ RelV v u ∧ Q v H'
def TP (X : Cx) (pins : List (Addr × Obj)) (σ : St) (Q : Bool → Hp → Prop) (b : Bool) (s' : Shared) : Prop := ∃ H', Inv X pins σ H' s' ∧ Q b H'
def AP (X : Cx) (pins : List (Addr × Obj)) (σ : St) (Q : List V → Hp → Prop) (us : List Value) (s' : Shared) : Prop := ∃ vs H', Inv X pins σ H' s' ∧ Vals vs us ∧ Q vs H'
def SP (X : Cx) (pins : List (Addr × Obj)) (D : Ends) (f : Flow) (s' : Shared) : Prop :=
  match f with
  | .next => ∃ σ' H', Inv X pins σ' H' s' ∧ D.nx σ' H'
  | .brk => ∃ σ' H', Inv X pins σ' H' s' ∧ D.bk σ' H'
  | .cont => ∃ σ' H', Inv X pins σ' H' s' ∧ D.ct σ' H'
  | .ret u => ∃ v σ' H', Inv X pins σ' H' s' ∧ RelV v u ∧ D.rt v H'

def PE (X : Cx) (e : Expr) (t : TE) : Prop :=
  ∀ (pins : List (Addr × Obj)) (s : Shared) (σ : St) (H : Hp) (Q : VK), Inv X pins σ H s → t σ H Q → wpAny (model X.prog X.w) X.A (eval e X.env) (EP X pins σ Q) X.xe s
def PT (X : Cx) (e : Expr) (t : TT) : Prop :=
  ∀ (pins : List (Addr × Obj)) (s : Shared) (σ : St) (H : Hp) (Q : Bool → Hp → Prop), Inv X pins σ H s → t σ H Q → wpAny (model X.prog X.w) X.A (isTrue e X.env (eval e X.env)) (TP X pins σ Q) X.xe s
/-- a test whatever its 'whole' is (and, or) -/
def PW (X : Cx) (e : Expr) (t : TT) : Prop :=
  ∀ (whole : Sem Value) (pins : List (Addr × Obj)) (s : Shared) (σ : St) (H : Hp) (Q : Bool → Hp → Prop), Inv X pins σ H s → t σ H Q → wpAny (model X.prog X.w) X.A (isTrue e X.env whole) (TP X pins σ Q) X.xe s
theorem PW.pt {X : Cx} {e : Expr} {t : TT} (h : PW X e t) : PT X e t := h _
/-- an argument list (no star), from the left -/
def PA (X : Cx) (es : List Expr) (t : TA) : Prop :=
  ∀ (pos : Pos) (pins : List (Addr × Obj)) (s : Shared) (σ : St) (H : Hp) (Q : List V → Hp → Prop), Inv X pins σ H s → t σ H Q → wpAny (model X.prog X.w) X.A (spliced (backTo pos (starEach es X.env))) (AP X pins σ Q) X.xe s
def PS (X : Cx) (st : Stmt) (t : TS) : Prop :=
  ∀ (pins : List (Addr × Obj)) (s : Shared) (σ : St) (H : Hp) (D : Ends), Inv X pins σ H s → t D σ H → wpAny (model X.prog X.w) X.A (exec st X.env) (SP X pins D) X.xe s
def PSs (X : Cx) (st : List Stmt) (t : TS) : Prop :=
  ∀ (pins : List (Addr × Obj)) (s : Shared) (σ : St) (H : Hp) (D : Ends), Inv X pins σ H s → t D σ H → wpAny (model X.prog X.w) X.A (execs st X.env) (SP X pins D) X.xe s
/-- weaken the end -/
theorem thn {α : Type} {t : Sem α} {Q Q' : α → Shared → Prop} {M : Model} {A : Around} {E : Value → Shared → Prop} {s : Shared} (h : wpAny M A t Q E s) (hQ : ∀ a s, Q a s → Q' a s) : wpAny M A t Q' E s := wpAny_mono h hQ fun _ _ x => x
end L2

namespace L2
open PySem PySem.Spec PyProof.Rows
section
variable {X : Cx}

/-- two expressions in a row -/
theorem bin {a b : Expr} {ta tb : TE} (ha : PE X a ta) (hb : PE X b tb) {pins : List (Addr × Obj)} {s : Shared} {σ : St} {H : Hp} {R : V → V → Hp → Prop} (I : Inv X pins σ H s) (h : ta σ H fun x H1 => tb σ H1 fun y H2 => R x y H2)
    {α : Type} {Q : α → Shared → Prop} {f : Value → Value → Sem α}
    (hf : ∀ v u s2 x y H2, Inv X pins σ H2 s2 → RelV x v → RelV y u → R x y H2 → wpAny (model X.prog X.w) X.A (f v u) Q X.xe s2) :
    wpAny (model X.prog X.w) X.A (eval a X.env) (fun v s₁ => wpAny (model X.prog X.w) X.A (eval b X.env) (fun u s₂ => wpAny (model X.prog X.w) X.A (f v u) Q X.xe s₂) X.xe s₁) X.xe s := by
  refine thn (ha pins s σ H _ I h) fun v s1 ⟨x, H1, I1, r1, q1⟩ => ?_
  refine thn (hb pins s1 σ H1 _ I1 q1) fun u s2 ⟨y, H2, I2, r2, q2⟩ => ?_
  exact hf v u s2 x y H2 I2 r1 r2 q2

/-! ### names and constants -/
def tVar (i : Nat) : TE := fun σ H Q => ∃ v, σ[i]? = some (some v) ∧ Q v H
def tC (v : V) : TE := fun _ H Q => Q v H
theorem pe_var {i : Nat} {x : Str} {pos : Pos} (hN : X.N[i]? = some x) (hv : Vis X.env.scope x) (hd : (x == ("__debug__" : Str)) = false := by decide) (hcd : (x == ("__classdict__" : Str)) = false := by decide) : PE X (.Name x pos) (tVar i) := by
  intro pins s σ H Q I h
  obtain ⟨v, e, h⟩ := h
  obtain ⟨m, hn, hl⟩ := I.loc
  obtain ⟨u, r, l⟩ := hl i x v hN e hv
  have fin : EP X pins σ Q u s := ⟨v, H, I, r, h⟩
  rcases l with ⟨hk, hm⟩ | ⟨hk, c, hc, hcell⟩
  · exact wpAny_Name (wpAny_loadName_local I.ok.kind hk hn hm fin) hd
  · rcases hk with hk | hk
    · exact wpAny_Name (wpAny_loadName_cell I.ok.kind hk hc hcell fin) hd
    · exact wpAny_Name (wpAny_loadName_free I.ok.kind hk hc hcell fin hcd) hd
theorem pe_int {i j pos} : PE X (.Constant (.int i) j pos) (tC (.int i)) := fun _ _ _ H _ I h => wpAny_Constant_int ⟨.int i, H, I.tok _, ⟨_, rfl⟩, h⟩
theorem pe_bl {b j pos} : PE X (.Constant (.bool b) j pos) (tC (.bl b)) := fun _ _ _ H _ I h => Constant_bool ⟨.bl b, H, I, rfl, h⟩
theorem pe_non {j pos} : PE X (.Constant .none j pos) (tC .non) := fun _ _ _ H _ I h => Constant_none ⟨.non, H, I, rfl, h⟩
theorem pe_str {x j pos} : PE X (.Constant (.str x) j pos) (tC (.str x)) := fun _ _ _ H _ I h => Calls.Constant_str ⟨.str x, H, I.tok _, ⟨_, rfl⟩, h⟩

/-- a global name of the def -/
def Gl (X : Cx) (x : Str) : Prop := X.env.kindOf x = some .globalImplicit
theorem ld_glob {E : Value → Shared → Prop} {pins : List (Addr × Obj)} {s : Shared} {σ : St} {H : Hp} {x : Str} {u : Value} {pos : Pos} {Q : Value → Shared → Prop} (I : Inv X pins σ H s) (hg : Gl X x) (hm : X.mg x = some u) (h : Q u s)
    (hd : (x == ("__debug__" : Str)) = false := by decide) : wpAny (model X.prog X.w) X.A (eval (.Name x pos) X.env) Q E s :=
  Calls.Name_function_global I.ok.kind hg (Calls.loadGlobal_global (by rw [I.ok.glob]; exact I.mod.glob.keeps I.bk) hm h) hd
theorem ld_blt {E : Value → Shared → Prop} {pins : List (Addr × Obj)} {s : Shared} {σ : St} {H : Hp} {x : Str} {u : Value} {pos : Pos} {Q : Value → Shared → Prop} (I : Inv X pins σ H s) (hg : Gl X x) (hm : X.mg x = none) (hv : bootBuiltins x = some u) (h : Q u s)
    (hn : x ≠ "__name__" := by decide) (hd : (x == ("__debug__" : Str)) = false := by decide) : wpAny (model X.prog X.w) X.A (eval (.Name x pos) X.env) Q E s := by
  obtain ⟨mb, h1, h2⟩ := I.mod.blt
  exact Calls.Name_function_global I.ok.kind hg (Calls.loadGlobal_builtin (by rw [I.ok.glob]; exact I.mod.glob.keeps I.bk) hm (by rw [I.ok.blt]; exact h1.keeps I.bk) ((h2 x hn).trans hv) h) hd
/-- a module's constant, a class, a function, as a value -/
theorem pe_glob {x : Str} {v : V} {u : Value} {pos : Pos} (hg : Gl X x) (hm : X.mg x = some u) (r : RelV v u) (hd : (x == ("__debug__" : Str)) = false := by decide) : PE X (.Name x pos) (tC v) :=
  fun _ _ _ H _ I h => ld_glob I hg hm ⟨v, H, I, r, h⟩ hd
theorem pe_bltn {x : Str} {v : V} {u : Value} {pos : Pos} (hg : Gl X x) (hm : X.mg x = none) (hv : bootBuiltins x = some u) (r : RelV v u) (hn : x ≠ "__name__" := by decide) (hd : (x == ("__debug__" : Str)) = false := by decide) : PE X (.Name x pos) (tC v) :=
  fun _ _ _ H _ I h => ld_blt I hg hm hv ⟨v, H, I, r, h⟩ hn hd

/-! ### arithmetic -/
/-- two ints -/
def t2I (ta tb : TE) (k : Int → Int → Hp → Prop) : St → Hp → Prop := fun σ H => ta σ H fun x H1 => tb σ H1 fun y H2 => ∃ i j, x = .int i ∧ y = .int j ∧ k i j H2
def tAdd (ta tb : TE) : TE := fun σ H Q => t2I ta tb (fun i j H2 => Q (.int (i + j)) H2) σ H
def tSub (ta tb : TE) : TE := fun σ H Q => t2I ta tb (fun i j H2 => Q (.int (i - j)) H2) σ H
/-- the left factor below 2^64 -/
def tMul (ta tb : TE) : TE := fun σ H Q => t2I ta tb (fun i j H2 => (-(2 ^ 64) < i ∧ i < 2 ^ 64) ∧ Q (.int (i * j)) H2) σ H
variable {a b : Expr} {ta tb : TE} {pos : Pos}

/-! ### comparisons -/
def PC (X : Cx) (op : CmpOp) (a b : Expr) (t : TE) : Prop :=
  ∀ (pins : List (Addr × Obj)) (s : Shared) (σ : St) (H : Hp) (Q : VK), Inv X pins σ H s → t σ H Q →
    wpAny (model X.prog X.w) X.A (eval a X.env) (fun v s₁ => wpAny (model X.prog X.w) X.A (eval b X.env) (fun u s₂ => wpAny (model X.prog X.w) X.A (compareOp op v u) (EP X pins σ Q) X.xe s₂) X.xe s₁) X.xe s
theorem nobehind (b : Expr) {op : CmpOp} (h : op ≠ .In) (h2 : op ≠ .NotIn) : behindInMarks op b = false := by
  have e1 : (op == CmpOp.In) = false := by cases op <;> first | rfl | exact absurd rfl h
  have e2 : (op == CmpOp.NotIn) = false := by cases op <;> first | rfl | exact absurd rfl h2
  cases b <;> simp [behindInMarks, e1, e2]
def tCmp (p : Int → Int → Bool) (ta tb : TE) : TE := fun σ H Q => t2I ta tb (fun i j H2 => Q (.bl (p i j)) H2) σ H
abbrev tLt : TE → TE → TE := tCmp fun i j => decide (i < j)
abbrev tLe : TE → TE → TE := tCmp fun i j => decide (i ≤ j)
abbrev tGt : TE → TE → TE := tCmp fun i j => decide (j < i)
abbrev tGe : TE → TE → TE := tCmp fun i j => decide (j ≤ i)
abbrev tEqI : TE → TE → TE := tCmp fun i j => decide (i = j)
abbrev tNeI : TE → TE → TE := tCmp fun i j => !decide (i = j)
/-- is None -/
def tIsN (ta : TE) : TE := fun σ H Q => ta σ H fun x H1 => Q (.bl (decide (x = .non))) H1
def tNotN (ta : TE) : TE := fun σ H Q => ta σ H fun x H1 => Q (.bl (!decide (x = .non))) H1
/-- a comparison as a value, as a test -/
def tB (t : TE) : TT := fun σ H Q => t σ H fun x H1 => ∃ c, x = .bl c ∧ Q c H1
theorem pt_cmp {op : CmpOp} {t : TE} (h : PC X op a b t) (h1 : behindInMarks op b = false := by first | exact nobehind _ (by decide) (by decide) | rfl) : PT X (.Compare a [op] [b] pos) (tB t) := by
  intro pins s σ H Q I hw
  refine wpAny_isTrue_Compare1 (thn (h pins s σ H _ I hw) fun v s1 h1 => thn h1 fun u s2 h2 => thn h2 fun c s3 ⟨x, H1, I1, r1, q1⟩ => ?_) h1
  obtain ⟨d, rfl, q⟩ := q1
  cases r1
  exact wpAny_truthy_bool ⟨H1, I1, q⟩
/-- an expression whose value is a bool, as a test -/
theorem pt_val {e : Expr} {t : TE} (h : PE X e t) (he : ∀ whole, isTrue e X.env whole = (do let v ← whole; standAt e.pos; holding [v] (truthy v)) := by intro _; rfl) : PT X e (tB t) := by
  intro pins s σ H Q I hw
  refine isTrue_plain (thn (h pins s σ H _ I hw) fun v s1 ⟨x, H1, I1, r1, q1⟩ => ?_) (he _)
  obtain ⟨d, rfl, q⟩ := q1
  cases r1
  exact wpAny_truthy_bool ⟨H1, I1, q⟩

/-! ### and, or, not -/
variable {tA tB' : TT} {rest : List Expr}
def tAnd (t u : TT) : TT := fun σ H Q => t σ H fun c H1 => if c = true then u σ H1 Q else Q false H1
def tOr (t u : TT) : TT := fun σ H Q => t σ H fun c H1 => if c = true then Q true H1 else u σ H1 Q
def tNot (t : TT) : TT := fun σ H Q => t σ H fun c H1 => Q (!c) H1
theorem pw_or1 (ha : PT X a tA) : PW X (.BoolOp .Or [a] pos) tA := by
  intro wh pins s σ H Q I h
  refine isTrue_or (thn (ha pins s σ H Q I h) fun c s1 e => ?_)
  cases c with
  | false => exact isTrue_or_nil e
  | true => exact e
theorem pw_or (ha : PT X a tA) (hb : PW X (.BoolOp .Or (b :: rest) pos) tB') : PW X (.BoolOp .Or (a :: b :: rest) pos) (tOr tA tB') := by
  intro wh pins s σ H Q I h
  refine isTrue_or (thn (ha pins s σ H _ I h) fun c s1 ⟨H1, I1, q1⟩ => ?_)
  cases c with
  | true => exact ⟨H1, I1, q1⟩
  | false => exact hb wh pins s1 σ H1 Q I1 q1
theorem pt_not (ha : PT X a tA) : PT X (.UnaryOp .Not a pos) (tNot tA) := by
  intro pins s σ H Q I h
  exact isTrue_not (ha pins s σ H (fun c H1 => Q (!c) H1) I h)
/-- .. as values (bools) -/
def tAndV (ta tb : TE) : TE := fun σ H Q => ta σ H fun x H1 => ∃ c, x = .bl c ∧ if c = true then tb σ H1 Q else Q (.bl false) H1
def tOrV (ta tb : TE) : TE := fun σ H Q => ta σ H fun x H1 => ∃ c, x = .bl c ∧ if c = true then Q (.bl true) H1 else tb σ H1 Q
def tNotV (ta : TE) : TE := fun σ H Q => ta σ H fun x H1 => ∃ c, x = .bl c ∧ Q (.bl (!c)) H1
theorem pe_one {op} {t : TE} (h : PE X a t) : PE X (.BoolOp op [a] pos) t := fun pins s σ H Q I hw => BoolOp_one (h pins s σ H Q I hw)
theorem pe_and (ha : PE X a ta) (hb : PE X (.BoolOp .And (b :: rest) pos) tb) : PE X (.BoolOp .And (a :: b :: rest) pos) (tAndV ta tb) := by
  intro pins s σ H Q I h
  refine BoolOp_and (thn (ha pins s σ H _ I h) fun v s1 ⟨x, H1, I1, r1, q1⟩ => ?_)
  obtain ⟨c, rfl, q1⟩ := q1
  cases r1
  refine wpAny_truthy_bool ?_
  cases c with
  | true => exact hb pins s1 σ H1 Q I1 q1
  | false => exact ⟨.bl false, H1, I1, rfl, q1⟩
theorem pe_or (ha : PE X a ta) (hb : PE X (.BoolOp .Or (b :: rest) pos) tb) : PE X (.BoolOp .Or (a :: b :: rest) pos) (tOrV ta tb) := by
  intro pins s σ H Q I h
  refine BoolOp_or (thn (ha pins s σ H _ I h) fun v s1 ⟨x, H1, I1, r1, q1⟩ => ?_)
  obtain ⟨c, rfl, q1⟩ := q1
  cases r1
  refine wpAny_truthy_bool ?_
  cases c with
  | false => exact hb pins s1 σ H1 Q I1 q1
  | true => exact ⟨.bl true, H1, I1, rfl, q1⟩
theorem pe_not (ha : PE X a ta) : PE X (.UnaryOp .Not a pos) (tNotV ta) := by
  intro pins s σ H Q I h
  refine UnaryOp_ (thn (ha pins s σ H _ I h) fun v s1 ⟨x, H1, I1, r1, q1⟩ => ?_)
  obtain ⟨c, rfl, q1⟩ := q1
  cases r1
  exact not_of (wpAny_truthy_bool ⟨.bl (!c), H1, I1, rfl, q1⟩)
/-- a if t else b -/
def tIf (t : TT) (ta tb : TE) : TE := fun σ H Q => t σ H fun c H1 => if c = true then ta σ H1 Q else tb σ H1 Q
end
end L2

namespace L2
open PySem PySem.Spec PyProof.Rows

/-! ### a list, a tuple that is read: tracked, frozen, or an object of the module -/
def SqL (K : PySem.W.Frag) (H : Hp) (a : Addr) (xs : List V) : Prop :=
  Rd H a (.lst xs) ∨
    ∃ (o : Obj) (its : Array Value) (n : Nat), K.lookup a = some o ∧ o.cls = .type "list" ∧ o.dict = none ∧ o.data = .seq its n ∧ its.size ≤ sizeLine ∧ Vals xs its.toList
def SqT (K : PySem.W.Frag) (H : Hp) (a : Addr) (xs : List V) : Prop :=
  Rd H a (.tup xs) ∨
    ∃ (o : Obj) (its : Array Value) (n : Nat), K.lookup a = some o ∧ o.cls = .type "tuple" ∧ o.data = .seq its n ∧ its.size ≤ sizeLine ∧ Vals xs its.toList
def absV : Value → Option V
  | .none => some .non
  | .bool b => some (.bl b)
  | .int i _ => some (.int i)
  | .str x _ => some (.str x)
  | .bytes b _ => some (.byt b)
  | .float b _ => some (.flt b)
  | .ref a => some (.ref a)
  | .type n => some (.ty n)
  | _ => none
theorem RelV.abs {x : V} {u : Value} (r : RelV x u) : absV u = some x := by
  cases x with
  | non => cases r; rfl
  | bl _ => cases r; rfl
  | int _ => obtain ⟨t, rfl⟩ := r; rfl
  | str _ => obtain ⟨t, rfl⟩ := r; rfl
  | byt _ => obtain ⟨t, rfl⟩ := r; rfl
  | flt _ => obtain ⟨t, rfl⟩ := r; rfl
  | ref _ => cases r; rfl
  | ty _ => cases r; rfl
theorem RelV.inj {x y : V} {u : Value} (r : RelV x u) (q : RelV y u) : x = y := Option.some.inj (r.abs.symm.trans q.abs)
theorem Vals.inj : ∀ {xs ys : List V} {us : List Value}, Vals xs us → Vals ys us → xs = ys
  | _, _, _, .nil, .nil => rfl
  | _, _, _, .cons r t, .cons r' t' => by rw [r.inj r', Vals.inj t t']
section
variable {X : Cx} {pins : List (Addr × Obj)} {σ : St} {H : Hp} {s : Shared} {a : Addr} {xs ys : List V}
theorem SqL.of {K : PySem.W.Frag} (h : H a = some (.lst xs)) : SqL K H a xs := .inl (.inl h)
theorem SqT.of {K : PySem.W.Frag} (h : H a = some (.tup xs)) : SqT K H a xs := .inl (.inl h)
theorem Inv.list (I : Inv X pins σ H s) (h : SqL X.K H a xs) : ∃ its : List Value, Vals xs its ∧ PlainL s.heap a its.toArray ∧ xs.length ≤ sizeLine := by
  rcases h with h | ⟨o, its, n, hk, hc, hd, hs, hz, r⟩
  · obtain ⟨z, its, n, r, e⟩ := h.ok I.hok
    exact ⟨its, r, ⟨_, n, e, rfl, rfl, rfl⟩, z⟩
  · refine ⟨its.toList, r, ⟨o, n, I.kIn a o hk, hc, hd, by simpa using hs⟩, ?_⟩
    have e := r.length
    simp only [Array.length_toList] at e
    omega
theorem Inv.tuple (I : Inv X pins σ H s) (h : SqT X.K H a xs) : ∃ its : List Value, Vals xs its ∧ IsTup s.heap a its.toArray ∧ xs.length ≤ sizeLine := by
  rcases h with h | ⟨o, its, n, hk, hc, hs, hz, r⟩
  · obtain ⟨z, its, r, p⟩ := h.ok I.hok
    exact ⟨its, r, p, z⟩
  · refine ⟨its.toList, r, ⟨o, I.kIn a o hk, hc, n, by simpa using hs⟩, ?_⟩
    have e := r.length
    simp only [Array.length_toList] at e
    omega
theorem Inv.list_inj (I : Inv X pins σ H s) (h : SqL X.K H a xs) (h' : SqL X.K H a ys) : xs = ys := by
  obtain ⟨its, r, ⟨o, n, e, _, _, d⟩, _⟩ := I.list h
  obtain ⟨its', r', ⟨o', n', e', _, _, d'⟩, _⟩ := I.list h'
  rw [e] at e'; cases e'
  rw [d] at d'
  injection d' with d1 _
  have : its = its' := by simpa using congrArg Array.toList d1
  subst this
  exact r.inj r'
end

/-! ### another wish about exceptions -/
abbrev Cx.wish (X : Cx) (E : Value → Shared → Prop) : Cx := { X with xe := E }
/-- no exception leaves -/
abbrev Cx.nox (X : Cx) : Cx := X.wish fun _ _ => False
theorem Cx.Ok.wish {X : Cx} (ok : X.Ok) (E : Value → Shared → Prop) : (X.wish E).Ok :=
  ⟨ok.mod, ok.kind, ok.glob, ok.blt, ok.above, ok.inj, ok.has, ok.cab, ok.hd, ok.frames, ok.stk, ok.exf, ok.bs, ok.bsz, ok.noex, ok.exfs, ok.funs, ok.frf⟩
theorem Cx.Ok.unwish {X : Cx} {E : Value → Shared → Prop} (ok : (X.wish E).Ok) : X.Ok :=
  ⟨ok.mod, ok.kind, ok.glob, ok.blt, ok.above, ok.inj, ok.has, ok.cab, ok.hd, ok.frames, ok.stk, ok.exf, ok.bs, ok.bsz, ok.noex, ok.exfs, ok.funs, ok.frf⟩
section
variable {X : Cx} {pins : List (Addr × Obj)} {σ : St} {H : Hp} {s : Shared} {E : Value → Shared → Prop}
theorem Inv.wish (I : Inv X pins σ H s) (E : Value → Shared → Prop) : Inv (X.wish E) pins σ H s := ⟨I.ok.wish E, I.os, I.bare, I.base, I.loc, I.cell, I.free, I.freeC, I.pin, I.hok, I.len⟩
theorem Inv.unwish (I : Inv (X.wish E) pins σ H s) : Inv X pins σ H s := ⟨I.ok.unwish, I.os, I.bare, I.base, I.loc, I.cell, I.free, I.freeC, I.pin, I.hok, I.len⟩
theorem SP.unwish {D : Ends} {f : Flow} {s' : Shared} (h : SP (X.wish E) pins D f s') : SP X pins D f s' := by
  cases f with
  | next => obtain ⟨σ', H', I, q⟩ := h; exact ⟨σ', H', I.unwish, q⟩
  | brk => obtain ⟨σ', H', I, q⟩ := h; exact ⟨σ', H', I.unwish, q⟩
  | cont => obtain ⟨σ', H', I, q⟩ := h; exact ⟨σ', H', I.unwish, q⟩
  | ret u => obtain ⟨v, σ', H', I, r, q⟩ := h; exact ⟨v, σ', H', I.unwish, r, q⟩
theorem PE.nox {e : Expr} {t : TE} (h : PE X.nox e t) : PE X e t := fun pins s σ H Q I hw =>
  wpAny_mono (h pins s σ H Q (I.wish _) hw) (fun _ _ ⟨v, H', I', r, q⟩ => ⟨v, H', I'.unwish, r, q⟩) fun _ _ z => False.elim z
theorem PT.nox {e : Expr} {t : TT} (h : PT X.nox e t) : PT X e t := fun pins s σ H Q I hw =>
  wpAny_mono (h pins s σ H Q (I.wish _) hw) (fun _ _ ⟨H', I', q⟩ => ⟨H', I'.unwish, q⟩) fun _ _ z => False.elim z
theorem PSs.nox {st : List Stmt} {t : TS} (h : PSs X.nox st t) : PSs X st t := fun pins s σ H D I hw =>
  wpAny_mono (h pins s σ H D (I.wish _) hw) (fun _ _ q => q.unwish) fun _ _ z => False.elim z
end

/-! ### blocks and small statements -/
section
variable {X : Cx} {st : Stmt} {rest : List Stmt} {t u : TS} {e : Expr} {te : TE} {pos : Pos}
def tNext : TS := fun D σ H => D.nx σ H
def tSeq (t u : TS) : TS := fun D σ H => t { D with nx := u D } σ H
theorem pss_nil : PSs X [] tNext := fun _ _ σ H _ I h => wpAny_execs_nil ⟨σ, H, I, h⟩
theorem pss_cons (h1 : PS X st t) (h2 : PSs X rest u) : PSs X (st :: rest) (tSeq t u) := by
  intro pins s σ H D I h
  refine wpAny_execs_cons (thn (h1 pins s σ H { D with nx := u D } I h) fun f s1 q => ?_)
  cases f with
  | next =>
    obtain ⟨σ', H', I', q⟩ := q
    exact h2 pins s1 σ' H' D I' q
  | ret v => exact q
  | brk => exact q
  | cont => exact q
theorem pss_one (h1 : PS X st t) : PSs X [st] t := by
  intro pins s σ H D I h
  refine wpAny_execs_cons (thn (h1 pins s σ H D I h) fun f s1 q => ?_)
  cases f with
  | next => exact wpAny_execs_nil q
  | ret v => exact q
  | brk => exact q
  | cont => exact q
def tBreak : TS := fun D σ H => D.bk σ H
def tCont : TS := fun D σ H => D.ct σ H
/-- in a def's body nothing is shown -/
theorem Inv.quiet {pins : List (Addr × Obj)} {σ : St} {H : Hp} {s : Shared} (I : Inv X pins σ H s) : interactive X.env = false := by simp [interactive, I.ok.kind]
/-- an expression whose value is dropped -/
def tDrop (te : TE) : TS := fun D σ H => te σ H fun _ H1 => D.nx σ H1
theorem ps_expr (he : PE X e te) (hs : swapsWith e none pos.line X.env = pure false := by rfl) : PS X (.Expr e pos) (tDrop te) := by
  intro pins s σ H D I h
  exact wpAny_Expr_any (thn (he pins s σ H _ I h) fun v s1 ⟨x, H1, I1, r1, q1⟩ => ⟨σ, H1, I1, q1⟩) I.quiet hs
def tRet (te : TE) : TS := fun D σ H => te σ H D.rt
theorem ps_ret (he : PE X e te) : PS X (.Return (some e) pos) (tRet te) := by
  intro pins s σ H D I h
  exact wpAny_Return_some (thn (he pins s σ H _ I h) fun v s1 ⟨x, H1, I1, r1, q1⟩ => ⟨x, σ, H1, I1, r1, q1⟩)
def tRetN : TS := fun D _ H => D.rt .non H
def tIfS (c : TT) (t u : TS) : TS := fun D σ H => c σ H fun b H1 => if b = true then t D σ H1 else u D σ H1
theorem ps_if {c : Expr} {a b : List Stmt} {tc : TT} (hc : PT X c tc) (ha : PSs X a t) (hb : PSs X b u) : PS X (.If c a b pos) (tIfS tc t u) := by
  intro pins s σ H D I h
  refine wpAny_If (thn (hc pins s σ H _ I h) fun d s1 ⟨H1, I1, q1⟩ => ?_)
  cases d with
  | true => exact ha pins s1 σ H1 D I1 q1
  | false => exact hb pins s1 σ H1 D I1 q1
/-- code that the proof never comes to -/
def tNever : TS := fun _ _ _ => False
end

/-! ### targets -/
abbrev TG := V → St → Hp → (St → Hp → Prop) → Prop
abbrev TGs := List V → St → Hp → (St → Hp → Prop) → Prop
def PG (X : Cx) (target : Expr) (t : TG) : Prop :=
  ∀ (pins : List (Addr × Obj)) (s : Shared) (σ : St) (H : Hp) (v : V) (u : Value) (Q : St → Hp → Prop), Inv X pins σ H s → RelV v u → t v σ H Q →
    wpAny (model X.prog X.w) X.A (assign target X.env u) (fun _ s' => ∃ σ' H', Inv X pins σ' H' s' ∧ Q σ' H') X.xe s
/-- several targets, one after another -/
def PGs (X : Cx) (ts : List Expr) (t : TGs) : Prop :=
  ∀ (pins : List (Addr × Obj)) (s : Shared) (σ : St) (H : Hp) (vs : List V) (us : List Value) (Q : St → Hp → Prop), Inv X pins σ H s → Vals vs us → t vs σ H Q →
    wpAny (model X.prog X.w) X.A (assignInOrder ((assignEach ts X.env).map (·.2)) us) (fun _ s' => ∃ σ' H', Inv X pins σ' H' s' ∧ Q σ' H') X.xe s
/-- o[i] = v, by values -/
abbrev TSet := V → V → V → Hp → (Hp → Prop) → Prop
def PSet (X : Cx) (t : TSet) : Prop :=
  ∀ (pins : List (Addr × Obj)) (s : Shared) (σ : St) (H : Hp) (o i v : V) (ov iv u : Value) (Q : Hp → Prop), Inv X pins σ H s → RelV o ov → RelV i iv → RelV v u → t o i v H Q →
    wpAny (model X.prog X.w) X.A (setItem ov iv u) (fun _ s' => ∃ H', Inv X pins σ H' s' ∧ Q H') X.xe s
/-- a op= b, by values -/
abbrev TIp := V → V → Hp → VK → Prop
def PIp (X : Cx) (op : Operator) (t : TIp) : Prop :=
  ∀ (pins : List (Addr × Obj)) (s : Shared) (σ : St) (H : Hp) (x y : V) (v u : Value) (Q : VK), Inv X pins σ H s → RelV x v → RelV y u → t x y H Q →
    wpAny (model X.prog X.w) X.A (inplaceOp op v u) (EP X pins σ Q) X.xe s
section
variable {X : Cx} {pos : Pos}
def gName (i : Nat) : TG := fun v σ H Q => Q (σ.set i (some v)) H
theorem pg_name {i : Nat} {x : Str} (hN : X.N.Nodup) (hi : X.N[i]? = some x) (hx : Loc X.env.scope x) (hf : X.fn x = true ∨ X.env.scope.names.lookup x = some .local := by first | exact .inl rfl | exact .inr rfl | assumption) : PG X (.Name x pos) (gName i) := by
  intro pins s σ H v u Q I r h
  exact wpAny_assign_Name (store_ok I hN hi hx r (fun s' I' => ⟨_, H, I', h⟩) hf)
def gNil : TGs := fun vs σ H Q => vs = [] ∧ Q σ H
def gCons (t : TG) (u : TGs) : TGs := fun vs σ H Q => ∃ v r, vs = v :: r ∧ t v σ H fun σ' H' => u r σ' H' Q
theorem pgs_nil : PGs X [] gNil := by
  intro pins s σ H vs us Q I r h
  obtain ⟨e, h⟩ := h
  subst e
  cases r
  exact assignInOrder_nil ⟨σ, H, I, h⟩
theorem pgs_cons {e : Expr} {es : List Expr} {t : TG} {u : TGs} (h1 : PG X e t) (h2 : PGs X es u)
    (hs : (assignEach (e :: es) X.env).map (·.2) = assign e X.env :: (assignEach es X.env).map (·.2) := by rfl) : PGs X (e :: es) (gCons t u) := by
  intro pins s σ H vs us Q I r h
  obtain ⟨v, vr, e1, h⟩ := h
  subst e1
  cases r with
  | cons r rr =>
    rw [hs]
    refine assignInOrder_cons (thn (h1 pins s σ H _ _ _ I r h) fun _ s1 ⟨σ1, H1, I1, q1⟩ => ?_)
    exact h2 pins s1 σ1 H1 _ _ Q I1 rr q1
/-- (a, b, ..) = a tuple of that length -/
def gTup (K : PySem.W.Frag) (n : Nat) (t : TGs) : TG := fun v σ H Q => ∃ a xs, v = .ref a ∧ SqT K H a xs ∧ xs.length = n ∧ t xs σ H Q
theorem pg_tup {es : List Expr} {k : Nat} {t : TGs} {n : Nat} (hc : X.calm = true) (h : PGs X es t)
    (hn : (assignEach es X.env).length = n := by rfl) (hst : (assignEach es X.env).findIdx? (·.1) = none := by rfl) : PG X (.Tuple es k pos) (gTup X.K n t) := by
  intro pins s σ H v u Q I r hw
  obtain ⟨a, xs, e1, hq, hl, hw⟩ := hw
  subst e1
  cases r
  obtain ⟨its, rv, ht, hz⟩ := I.tuple hq
  refine assign_Tuple_tuple (I.ok.hd hc) ht (by simp [hn, ← hl, rv.length]) hst fun h' hx => ?_
  have I1 : Inv X pins σ H { s with heap := h' } := I.kept (t' := s.toks) fun b o e => hx b o (Nat.ne_of_lt (Heap.lt_size e)) e
  exact h pins _ σ H xs _ Q I1 (by simpa using rv) hw
/-- o[i] = .. -/
def gSub (to ti : TE) (t : TSet) : TG := fun v σ H Q => to σ H fun o H1 => ti σ H1 fun i H2 => t o i v H2 fun H3 => Q σ H3
theorem pg_sub {o i : Expr} {to ti : TE} {t : TSet} (ho : PE X o to) (hi : PE X i ti) (hs : PSet X t)
    (ha : ∀ v, assign (.Subscript o i pos) X.env v = (do
      let ov ← holding [v] (eval o X.env)
      let iv ← holding [v, ov] (eval i X.env)
      standAt pos
      holding [v, ov, iv] (setItem ov iv v)
      release [v, ov, iv] []) := by intro _; rfl) : PG X (.Subscript o i pos) (gSub to ti t) := by
  intro pins s σ H v u Q I r h
  rw [ha]
  refine wpAny_bind (wpAny_holding (thn (ho pins s σ H _ I h) fun ov s1 ⟨x, H1, I1, r1, q1⟩ => ?_))
  refine wpAny_bind (wpAny_holding (thn (hi pins s1 σ H1 _ I1 q1) fun iv s2 ⟨y, H2, I2, r2, q2⟩ => ?_))
  refine wpAny_bind (wpAny_standAt (wpAny_bind (wpAny_holding (thn (hs pins s2 σ H2 x y v ov iv u _ I2 r1 r2 r q2) fun _ s3 ⟨H3, I3, q3⟩ => ?_))))
  exact wpAny_release ⟨σ, H3, I3, q3⟩
/-- target = value -/
def tAsg (te : TE) (g : TG) : TS := fun D σ H => te σ H fun x H1 => g x σ H1 D.nx
theorem ps_asg {tg e : Expr} {te : TE} {g : TG} (he : PE X e te) (hg : PG X tg g) (hs : swapsWithSole [tg] e pos.line X.env = pure false := by rfl) (hw : swappedStores [tg] e X.env = pure none := by rfl)
    (h1 : (assignEach [tg] X.env).map (·.2) = [assign tg X.env] := by rfl) : PS X (.Assign [tg] e pos) (tAsg te g) := by
  intro pins s σ H D I h
  refine wpAny_Assign_stores (thn (he pins s σ H _ I h) fun v s1 ⟨x, H1, I1, r1, q1⟩ => ?_) hs hw
  rw [h1]
  exact thn (hg pins s1 σ H1 x v _ I1 r1 q1) fun _ s2 q => q
/-- name = value -/
theorem ps_set {i : Nat} {x : Str} {e : Expr} {te : TE} {pos' : Pos} (hN : X.N.Nodup) (hi : X.N[i]? = some x) (hx : Loc X.env.scope x) (he : PE X e te) (hs : swapsWith e (some (.Name x pos')) pos.line X.env = pure false := by rfl) (hf : X.fn x = true ∨ X.env.scope.names.lookup x = some .local := by first | exact .inl rfl | exact .inr rfl | assumption) :
    PS X (.Assign [.Name x pos'] e pos) (tAsg te (gName i)) := by
  intro pins s σ H D I h
  refine wpAny_Assign_Name (thn (he pins s σ H _ I h) fun v s1 ⟨y, H1, I1, r1, q1⟩ => ?_) hs
  exact store_ok I1 hN hi hx r1 (fun s2 I2 => ⟨_, H1, I2, q1⟩) hf
/-- a, b = x, y with plain local names: stored from the right; the pair itself is not tracked (the opening rows as in PyProof/Rows/TupAssign.lean:23) -/
def tPar (i j : Nat) (ta : TA) : TS := fun D σ H => ta σ H fun vs H1 => ∃ v w, vs = [v, w] ∧ D.nx ((σ.set i (some v)).set j (some w)) H1
/-- name op= e -/
def tAug (i : Nat) (te : TE) (ti : TIp) : TS := fun D σ H => ∃ x, σ[i]? = some (some x) ∧ te σ H fun y H1 => ti x y H1 fun z H2 => D.nx (σ.set i (some z)) H2
/-- o[i] op= e -/
def tAugS (to ti te : TE) (tget : V → V → Hp → VK → Prop) (tip : TIp) (tset : TSet) : TS := fun D σ H => to σ H fun o H1 => ti σ H1 fun i H2 => tget o i H2 fun x H3 => te σ H3 fun y H4 => tip x y H4 fun z H5 => tset o i z H5 fun H6 => D.nx σ H6
/-- o[i], by values -/
def PGet (X : Cx) (t : V → V → Hp → VK → Prop) : Prop :=
  ∀ (pins : List (Addr × Obj)) (s : Shared) (σ : St) (H : Hp) (o i : V) (ov iv : Value) (Q : VK), Inv X pins σ H s → RelV o ov → RelV i iv → t o i H Q →
    wpAny (model X.prog X.w) X.A (getItem ov iv) (EP X pins σ Q) X.xe s
/-- ints -/
def ipI (f : Int → Int → Int) : TIp := fun x y H Q => ∃ i j, x = .int i ∧ y = .int j ∧ Q (.int (f i j)) H
end

/-! ### while -/
section
variable {X : Cx} {pos : Pos}
/-- the invariant W with its measure -/
def tWhile (c : TT) (tb : TS) : TS := fun D σ H => ∃ W : Nat → St → Hp → Prop, (∃ m, W m σ H) ∧ ∀ m σ H, W m σ H →
  c σ H fun b H1 => if b = true then ∃ N : St → Hp → Prop, (∀ σ' H', N σ' H' → ∃ m', m' < m ∧ W m' σ' H') ∧ tb { D with nx := N, ct := N, bk := D.nx } σ H1 else D.nx σ H1
end

/-! ### what a loop or a comprehension walks -/
/-- at turn i: it yields x (the heap may grow), or it stops -/
structure It where
  go : Nat → Hp → Prop
  yld : Nat → Hp → V → Hp → Prop
  stop : Nat → Hp → Prop
/-- the iterator's own objects may turn: they are not the frame's, not pinned, younger than the entry (or a comprehension's own) -/
def FpOk (X : Cx) (pins : List (Addr × Obj)) (H : Hp) (b : Addr) : Prop :=
  H b = none ∧ b ≠ X.env.locals ∧ b ∉ X.fs ∧ (b ∈ X.ex ∨ X.s₀.heap.objs.size ≤ b) ∧ (∀ x c, X.env.cells.lookup x = some c → c ≠ b) ∧ ∀ p ∈ X.pn ++ pins, p.1 ≠ b
theorem Inv.fpOk {X : Cx} {pins : List (Addr × Obj)} {σ : St} {H H' : Hp} {s : Shared} {b : Addr} (I : Inv X pins σ H s) (hb : s.heap.objs.size ≤ b) (hn : H' b = none) : FpOk X pins H' b := by
  refine ⟨hn, Nat.ne_of_gt (Nat.lt_of_lt_of_le I.lt hb), I.nofs hb, .inr (Nat.le_trans I.sz hb), fun x c e z => ?_, fun p hp z => ?_⟩
  · obtain ⟨v, q⟩ := I.cell x c e
    exact absurd (Nat.lt_of_lt_of_le q.lt (by rw [z]; exact hb)) (Nat.lt_irrefl _)
  · exact absurd (Nat.lt_of_lt_of_le (Heap.lt_size (I.pin p hp).1) (by rw [z]; exact hb)) (Nat.lt_irrefl _)
structure Turn (P : Program) (w : World) (K : PySem.W.Frag) (tg : Expr) (J : It) (fp : List Addr) (it : Addr) (tn : Nat → Heap → Prop) : Prop where
  mem : it ∈ fp
  obj : ∀ i h, tn i h → ∀ b ∈ fp, ∃ o, h.get? b = some o ∧ ∀ v, o.data ≠ .cell v
  keep : ∀ i h h', tn i h → (∀ b ∈ fp, ∀ o, h.get? b = some o → h'.get? b = some o) → tn i h'
  item : ∀ (X : Cx), X.prog = P → X.w = w → X.K = K → X.calm = true → ∀ (i : Nat) (pins : List (Addr × Obj)) (s : Shared) (σ : St) (H : Hp) (E : Value → Shared → Prop), Inv X pins σ H s → (∀ b ∈ fp, FpOk X pins H b) → tn i s.heap → J.go i H →
    wpAny (model P w) X.A (pyNext (.ref it)) (fun r s1 => ∃ u, r = some u ∧
      wpAny (model P w) X.A (letOwnedTupleGo tg (.ref it) u) (fun _ s2 => ∃ x H', Inv X pins σ H' s2 ∧ RelV x u ∧ J.yld i H x H' ∧ tn (i + 1) s2.heap ∧ ∀ b ∈ fp, H' b = none) E s1) E s
  done : ∀ (X : Cx), X.prog = P → X.w = w → X.K = K → X.calm = true → ∀ (i : Nat) (pins : List (Addr × Obj)) (s : Shared) (σ : St) (H : Hp) (E : Value → Shared → Prop), Inv X pins σ H s → (∀ b ∈ fp, FpOk X pins H b) → tn i s.heap → J.stop i H →
    wpAny (model P w) X.A (pyNext (.ref it)) (fun r s1 => r = none ∧ Inv X pins σ H s1) E s
  self : ∀ (A : Around) (i : Nat) (s : Shared) (Q : Value → Shared → Prop) (E : Value → Shared → Prop), tn i s.heap → Q (.ref it) s → wpAny (model P w) A (pyIter (.ref it)) Q E s
abbrev TI := St → Hp → (It → Hp → Prop) → Prop
/-- an iterator has come -/
def PIE (X : Cx) (pins : List (Addr × Obj)) (σ : St) (tg : Expr) (R : It → Hp → Prop) (itv : Value) (s2 : Shared) : Prop :=
  ∃ (it : Addr) (fp : List Addr) (tn : Nat → Heap → Prop) (J : It) (H' : Hp), itv = .ref it ∧ Inv X pins σ H' s2 ∧ Turn X.prog X.w X.K tg J fp it tn ∧ tn 0 s2.heap ∧ (∀ b ∈ fp, FpOk X pins H' b) ∧ R J H'
def PI (X : Cx) (tg iter : Expr) (wi : TI) : Prop :=
  ∀ (pins : List (Addr × Obj)) (s : Shared) (σ : St) (H : Hp) (R : It → Hp → Prop), Inv X pins σ H s → wi σ H R →
    wpAny (model X.prog X.w) X.A (eval iter X.env) (fun v s1 => wpAny (model X.prog X.w) X.A (pyIter v) (PIE X pins σ tg R) X.xe s1) X.xe s

/-- the step ahead of the store is nothing for an iterator that keeps no tuple -/
theorem go_of {M : Model} {A : Around} {E : Value → Shared → Prop} {s : Shared} {tg : Expr} {it : Addr} {u : Value} {o : Obj} {n : String} {vs : Array Value} {Q : Unit → Shared → Prop} (ho : s.heap.get? it = some o) (hc : o.cls = .type n) (hd : o.data = .fields vs)
    (hn : ["enumerate", "zip", "dict_itemiterator", "dict_reverseitemiterator", "odict_iterator", "itertools.zip_longest", "itertools.pairwise"].contains n = false) (hQ : Q () s) : wpAny M A (letOwnedTupleGo tg (.ref it) u) Q E s := by
  unfold letOwnedTupleGo
  cases tg <;> first
    | exact wpAny_pure hQ
    | (cases u <;> first
        | exact wpAny_pure hQ
        | (refine wpAny_bind (wpAny_load ho ?_)
           rw [hc, hd]
           show wpAny M A (if (["enumerate", "zip", "dict_itemiterator", "dict_reverseitemiterator", "odict_iterator", "itertools.zip_longest", "itertools.pairwise"].contains n && vs[0]? == some (rawInt _)) = true then _ else _) Q E s
           rw [if_neg (by intro h; rw [hn, Bool.false_and] at h; cases h)]
           exact wpAny_pure hQ))

/-- the list at a, as it stands at each turn (a loop may append to it) -/
def Itl (K : PySem.W.Frag) (a : Addr) : It :=
  ⟨fun i H => ∃ xs x, SqL K H a xs ∧ xs[i]? = some x, fun i H x H' => H' = H ∧ ∀ xs, SqL K H a xs → xs[i]? = some x, fun i H => ∃ xs, SqL K H a xs ∧ xs.length ≤ i⟩
def Itt (K : PySem.W.Frag) (a : Addr) : It :=
  ⟨fun i H => ∃ xs x, SqT K H a xs ∧ xs[i]? = some x, fun i H x H' => H' = H ∧ ∀ xs, SqT K H a xs → xs[i]? = some x, fun i H => ∃ xs, SqT K H a xs ∧ xs.length ≤ i⟩
/-- lo, lo + 1, .. (n of them) -/
def Itr (lo : Int) (n : Nat) : It := ⟨fun i _ => i < n, fun i H x H' => H' = H ∧ x = .int (lo + i), fun i _ => n ≤ i⟩
theorem turn_list {P : Program} {w : World} {K : PySem.W.Frag} {tg : Expr} (a it : Addr) : Turn P w K tg (Itl K a) [it] it (fun i h => h.IsListIter it a i) where
  mem := by simp
  obj := fun i h st b hb => by
    have e : b = it := by simpa using hb
    subst e
    obtain ⟨o, e, c, d⟩ := st
    exact ⟨o, e, fun v z => by rw [d] at z; cases z⟩
  keep := fun i h h' st k => st.at fun o e => k it (by simp) o e
  item := by
    intro X hP hw hK hc i pins s σ H E I hf st hg
    subst hP hw hK
    obtain ⟨xs, x, hq, hx⟩ := hg
    obtain ⟨its, rv, p, hz⟩ := I.list hq
    obtain ⟨u, hu, ru⟩ := rv.get hx
    obtain ⟨f0, f1, f2, f3, f4, f5⟩ := hf it (by simp)
    refine wpAny_pyNext_list_item st p.isList (x := u) (by simpa using hu) fun h' st' sb => ?_
    have I1 : Inv X pins σ H { s with heap := h' } := I.turned (t' := s.toks) (fun b o hb e => (sb.2 b hb).trans e) f0 f1 f3 f4 f5
    obtain ⟨o, e, c, d⟩ := id st'
    exact ⟨u, rfl, go_of (s := { s with heap := h' }) e c d (by decide) ⟨x, H, I1, ru, ⟨rfl, fun ys hy => by rw [I.list_inj hy hq]; exact hx⟩, st', fun b hb => (hf b hb).1⟩⟩
  done := by
    intro X hP hw hK hc i pins s σ H E I hf st hg
    subst hP hw hK
    obtain ⟨xs, hq, hx⟩ := hg
    obtain ⟨its, rv, p, hz⟩ := I.list hq
    obtain ⟨f0, f1, f2, f3, f4, f5⟩ := hf it (by simp)
    have hl := rv.length
    exact wpAny_pyNext_list_end (I.ok.hd hc) st p.isList (by simp; omega) fun h' eb => ⟨rfl, I.turned (t' := s.toks) (fun b o hb e => eb b o hb e) f0 f1 f3 f4 f5⟩
  self := fun _ _ _ _ _ st h => wpAny_pyIter_listiter st h
theorem turn_range {P : Program} {w : World} {K : PySem.W.Frag} {tg : Expr} (it : Addr) (lo : Int) (n : Nat) : Turn P w K tg (Itr lo n) [it] it (fun i h => IsRangeIter h it (lo + (i : Nat) * 1) ((n : Int) - (i : Nat)) 1) where
  mem := by simp
  obj := fun i h st b hb => by
    have e : b = it := by simpa using hb
    subst e
    exact ⟨_, st, fun v z => by
      have z' : Data.fields _ = Data.cell v := z
      cases z'⟩
  keep := fun i h h' st k => k it (by simp) _ st
  item := by
    intro X hP hw hK hc i pins s σ H E I hf st hg
    subst hP hw hK
    obtain ⟨f0, f1, f2, f3, f4, f5⟩ := hf it (by simp)
    have W := Walks.range (prog := X.prog) (w := X.w) (I.ok.hd hc) it lo 1 n
    refine W.item i s _ _ hg st fun v h' tk hv st' kk => ?_
    obtain ⟨t, rfl⟩ := hv
    have I1 : Inv X pins σ H { s with heap := h', toks := tk } := I.turned (fun b o hb e => kk b o (by simpa using hb) e) f0 f1 f3 f4 f5
    refine ⟨_, rfl, go_of (s := { s with heap := h', toks := tk }) (n := "range_iterator") st' rfl rfl (by decide) ⟨.int (lo + i), H, I1, ⟨t, ?_⟩, ⟨rfl, rfl⟩, st', fun b hb => (hf b hb).1⟩⟩
    rw [Int.mul_one]
  done := by
    intro X hP hw hK hc i pins s σ H E I hf st hg
    subst hP hw hK
    obtain ⟨f0, f1, f2, f3, f4, f5⟩ := hf it (by simp)
    exact wpAny_pyNext_range_end (I.ok.hd hc) st (by have : n ≤ i := hg; omega) fun h' eb => ⟨rfl, I.turned (t' := s.toks) (fun b o hb e => eb b o hb e) f0 f1 f3 f4 f5⟩
  self := fun _ _ _ _ _ st h => wpAny_pyIter_rangeiter st h
end L2

namespace L2
open PySem PySem.Spec PyProof.Rows
section
variable {X : Cx} {tg : Expr}
def iList (K : PySem.W.Frag) (tl : TE) : TI := fun σ H R => tl σ H fun x H1 => ∃ a, x = .ref a ∧ (∃ xs, SqL K H1 a xs) ∧ R (Itl K a) H1
def iTup (K : PySem.W.Frag) (tl : TE) : TI := fun σ H R => tl σ H fun x H1 => ∃ a, x = .ref a ∧ (∃ xs, SqT K H1 a xs) ∧ R (Itt K a) H1
theorem pi_list {l : Expr} {tl : TE} (hl : PE X l tl) : PI X tg l (iList X.K tl) := by
  intro pins s σ H R I h
  refine thn (hl pins s σ H _ I h) fun v s1 ⟨x, H1, I1, r1, q1⟩ => ?_
  obtain ⟨a, e, ⟨xs, hq⟩, q⟩ := q1
  subst e
  cases r1
  obtain ⟨its, rv, p, hz⟩ := I1.list hq
  refine wpAny_pyIter_list p.isList ?_
  refine ⟨s1.heap.objs.size, [s1.heap.objs.size], _, _, H1, rfl, I1.kept (t' := s1.toks) fun b o e => Heap.get?_push_of_some _ e, turn_list a _, ⟨_, Heap.get?_push_size _ rfl, rfl, rfl⟩, fun b hb => ?_, q⟩
  have e : b = s1.heap.objs.size := by simpa using hb
  subst e
  exact I1.fpOk (Nat.le_refl _) (I1.hok.fresh (Nat.le_refl _))
/-- a range object just made, walked -/
theorem range_it {pins : List (Addr × Obj)} {σ : St} {H : Hp} {s : Shared} {R : It → Hp → Prop} {E : Value → Shared → Prop} {lo hi : Int} {t u v : Tok} {tk : Nat} (I : Inv X pins σ H s) (h1 : -(2 ^ 62) ≤ lo) (h2 : lo < 2 ^ 62) (h3 : -(2 ^ 62) ≤ hi) (h4 : hi < 2 ^ 62)
    (q : R (Itr lo (hi - lo).toNat) H) : wpAny (model X.prog X.w) X.A (pyIter (.ref s.heap.objs.size)) (PIE X pins σ tg R) E { s with heap := s.heap.push { cls := .type "range", data := .fields #[.int lo t, .int hi u, .int 1 v] }, toks := tk } := by
  refine wpAny_pyIter_range (IsRange.new ..) (small_one h1 h2 h3 h4) ?_
  have I1 : Inv X pins σ H { s with heap := s.heap.push { cls := .type "range", data := .fields #[.int lo t, .int hi u, .int 1 v] }, toks := tk } := I.kept fun b o e => Heap.get?_push_of_some _ e
  refine ⟨(s.heap.push { cls := .type "range", data := .fields #[.int lo t, .int hi u, .int 1 v] }).objs.size, [(s.heap.push { cls := .type "range", data := .fields #[.int lo t, .int hi u, .int 1 v] }).objs.size], _, _, H, rfl,
    I1.kept (t' := tk) fun b o e => Heap.get?_push_of_some _ e, turn_range _ lo (hi - lo).toNat, ?_, fun b hb => ?_, q⟩
  · have e1 : lo + ((0 : Nat) : Int) * 1 = lo := by simp
    have e2 : (((hi - lo).toNat : Nat) : Int) - ((0 : Nat) : Int) = Builtin.Range.rangeSize lo hi 1 := by rw [rangeSize_one]; split <;> omega
    show IsRangeIter _ _ (lo + ((0 : Nat) : Int) * 1) ((((hi - lo).toNat : Nat) : Int) - ((0 : Nat) : Int)) 1
    rw [e1, e2]
    exact Heap.get?_push_size _ rfl
  · have e : b = (s.heap.push { cls := .type "range", data := .fields #[.int lo t, .int hi u, .int 1 v] }).objs.size := by simpa using hb
    subst e
    exact I1.fpOk (Nat.le_refl _) (I1.hok.fresh (Nat.le_refl _))
def iRng1 (ta : TA) : TI := fun σ H R => ta σ H fun vs H1 => ∃ j : Int, vs = [.int j] ∧ -(2 ^ 62) ≤ j ∧ j < 2 ^ 62 ∧ R (Itr 0 j.toNat) H1
def iRng2 (ta : TA) : TI := fun σ H R => ta σ H fun vs H1 => ∃ i j : Int, vs = [.int i, .int j] ∧ (-(2 ^ 62) ≤ i ∧ i < 2 ^ 62 ∧ -(2 ^ 62) ≤ j ∧ j < 2 ^ 62) ∧ R (Itr i (j - i).toNat) H1
theorem pi_range1 {a : Expr} {ta : TA} {p pos : Pos} (hg : Gl X "range") (hm : X.mg "range" = none) (ha : PA X [a] ta) (hs : starEach [a] X.env = [(false, eval a X.env)] := by rfl) : PI X tg (.Call (.Name "range" p) [a] [] pos) (iRng1 ta) := by
  intro pins s σ H R I h
  refine Call_ (ld_blt I hg hm boot_range (PyProof.Rows.callWith_type1 (thn (ha pos pins s σ H _ I h) fun us s1 ⟨vs, H1, I1, r1, q1⟩ => ?_) hs rfl))
  obtain ⟨j, e, q1, q2, q⟩ := q1
  subst e
  cases r1 with
  | cons r rr =>
    cases rr
    obtain ⟨t, rfl⟩ := r
    exact call_range_1 (range_it I1 (by omega) (by omega) q1 q2 (by simpa using q))

/-! ### for -/
/-- W: the invariant by the turn and a measure; N: what the body is to reach -/
def tFor (wi : TI) (g : TG) (tb : TS) : TS := fun D σ H => wi σ H fun J H1 => ∃ W : Nat → Nat → St → Hp → Prop, (∃ m, W 0 m σ H1) ∧ ∀ i m σ H, W i m σ H →
  (J.stop i H ∧ D.nx σ H) ∨ (J.go i H ∧ ∃ N : St → Hp → Prop, (∀ σ' H', N σ' H' → ∃ m', m' < m ∧ W (i + 1) m' σ' H') ∧ ∀ x H', J.yld i H x H' → g x σ H' fun σ2 H2 => tb { D with nx := N, ct := N, bk := D.nx } σ2 H2)
/-- the records at fp as they stand -/
def pinsAt (fp : List Addr) (h : Heap) : List (Addr × Obj) := fp.filterMap fun b => (h.get? b).map fun o => (b, o)
theorem mem_pinsAt {fp : List Addr} {h : Heap} {b : Addr} {o : Obj} (hb : b ∈ fp) (e : h.get? b = some o) : (b, o) ∈ pinsAt fp h := List.mem_filterMap.mpr ⟨b, hb, by rw [e]; rfl⟩
theorem of_pinsAt {fp : List Addr} {h : Heap} {p : Addr × Obj} (hp : p ∈ pinsAt fp h) : p.1 ∈ fp ∧ h.get? p.1 = some p.2 := by
  obtain ⟨b, hb, e⟩ := List.mem_filterMap.mp hp
  cases q : h.get? b with
  | none => rw [q] at e; cases e
  | some o =>
    rw [q] at e
    have e' : (b, o) = p := Option.some.inj e
    subst e'
    exact ⟨hb, q⟩
theorem Inv.pinned {pins : List (Addr × Obj)} {σ : St} {H : Hp} {s : Shared} {fp : List Addr} (I : Inv X pins σ H s) (hf : ∀ b ∈ fp, FpOk X pins H b) (ho : ∀ b ∈ fp, ∃ o, s.heap.get? b = some o ∧ ∀ v, o.data ≠ .cell v) : Inv X (pins ++ pinsAt fp s.heap) σ H s :=
  I.pins_of fun p hp => (List.mem_append.mp hp).elim (fun z => I.pin p (List.mem_append_right _ z)) fun z => by
    obtain ⟨hb, e⟩ := of_pinsAt z
    obtain ⟨f0, f1, f2, _⟩ := hf p.1 hb
    obtain ⟨o, e', d⟩ := ho p.1 hb
    rw [e] at e'; cases e'
    exact ⟨e, f0, f1, f2, d⟩
theorem Inv.unpinned {pins pl : List (Addr × Obj)} {σ : St} {H : Hp} {s : Shared} (I : Inv X (pins ++ pl) σ H s) : Inv X pins σ H s := I.pins_of fun p hp => I.pin p (List.mem_append_right _ (List.mem_append_left _ hp))
theorem ps_for {iter : Expr} {body : List Stmt} {wi : TI} {g : TG} {tb : TS} {pos : Pos} (hp : PassesOwn (model X.prog X.w) X.A X.env X.xe) (hc : X.calm = true) (hi : PI X tg iter wi) (hg : PG X tg g) (hb : PSs X body tb)
    (hs : ∀ x, foldedSetIterable iter X.env x = pure x := by intro _; rfl) : PS X (.For tg iter body [] pos) (tFor wi g tb) := by
  intro pins s σ H D I h
  refine wpAny_For (thn (hi pins s σ H _ I h) fun v s1 h1 => thn h1 fun itv s2 h2 => ?_) hs
  obtain ⟨it, fp, tn, J, H2, e, I2, T, st2, f2, W, ⟨m0, w0⟩, turn⟩ := h2
  subst e
  -- what stays true of the iterator's objects through the loop
  have stat : ∀ {H' : Hp}, (∀ b ∈ fp, H' b = none) → ∀ b ∈ fp, FpOk X pins H' b := fun hn b hb => ⟨hn b hb, (f2 b hb).2⟩
  refine codeAny_forLoop_any (fun n s' => ∃ i σ' H', Inv X pins σ' H' s' ∧ tn i s'.heap ∧ (∀ b ∈ fp, H' b = none) ∧ W i n σ' H') ?_ m0 ⟨0, σ, H2, I2, st2, fun b hb => (f2 b hb).1, w0⟩
  rintro n s3 ⟨i, σ3, H3, I3, st3, fr3, w3⟩
  rcases turn i n σ3 H3 w3 with ⟨stop, qn⟩ | ⟨go, N, hN, step⟩
  · refine wpAny_passesOwn hp (thn (T.done X rfl rfl rfl hc i pins s3 σ3 H3 X.xe I3 (stat fr3) st3 stop) fun r s4 ⟨hr, I4⟩ => ?_)
    subst hr
    exact wpAny_execs_nil ⟨σ3, H3, I4, qn⟩
  · refine wpAny_passesOwn hp (thn (T.item X rfl rfl rfl hc i pins s3 σ3 H3 X.xe I3 (stat fr3) st3 go) fun r s4 ⟨u, hr, h4⟩ => ?_)
    subst hr
    refine wpAny_passesOwn hp (thn h4 fun _ s5 ⟨x, H5, I5, r5, y5, st5, fr5⟩ => ?_)
    have I5' := I5.pinned (stat fr5) (T.obj _ _ st5)
    refine wpAny_passesOwn hp (thn (hg _ s5 σ3 H5 x u _ I5' r5 (step x H5 y5)) fun _ s6 ⟨σ6, H6, I6, q6⟩ => ?_)
    refine wpAny_passesOwn hp (thn (hb _ s6 σ6 H6 _ I6 q6) fun f s7 q7 => ?_)
    have again : ∀ {σ7 : St} {H7 : Hp}, Inv X (pins ++ pinsAt fp s5.heap) σ7 H7 s7 → N σ7 H7 → ∃ m, m < n ∧ ∃ i σ' H', Inv X pins σ' H' s7 ∧ tn i s7.heap ∧ (∀ b ∈ fp, H' b = none) ∧ W i m σ' H' := fun {σ7 H7} I7 n7 => by
      obtain ⟨m', hm, w7⟩ := hN σ7 H7 n7
      refine ⟨m', hm, i + 1, σ7, H7, I7.unpinned, T.keep _ _ _ st5 fun b hb o e => (I7.pin (b, o) (List.mem_append_right _ (List.mem_append_right _ (mem_pinsAt hb e)))).1, fun b hb => ?_, w7⟩
      obtain ⟨o, e, d⟩ := T.obj _ _ st5 b hb
      exact (I7.pin (b, o) (List.mem_append_right _ (List.mem_append_right _ (mem_pinsAt hb e)))).2.1
    cases f with
    | next => obtain ⟨σ7, H7, I7, n7⟩ := q7; exact again I7 n7
    | cont => obtain ⟨σ7, H7, I7, n7⟩ := q7; exact again I7 n7
    | brk => obtain ⟨σ7, H7, I7, q7⟩ := q7; exact ⟨σ7, H7, I7.unpinned, q7⟩
    | ret v => obtain ⟨x7, σ7, H7, I7, r7, q7⟩ := q7; exact ⟨x7, σ7, H7, I7.unpinned, r7, q7⟩
end

/-! ### the forms one uses -/
/-- over a list that the body leaves as it is -/
theorem for_list {K : PySem.W.Frag} {a : Addr} {xs : List V} {g : TG} {tb : TS} {D : Ends} {σ : St} {H : Hp} (Pv : Nat → St → Hp → Prop) (h0 : Pv 0 σ H) (hl : ∀ i σ H, i ≤ xs.length → Pv i σ H → SqL K H a xs)
    (hs : ∀ i x σ H, xs[i]? = some x → Pv i σ H → g x σ H fun σ2 H2 => tb { D with nx := Pv (i + 1), ct := Pv (i + 1), bk := D.nx } σ2 H2) (hd : ∀ σ H, Pv xs.length σ H → D.nx σ H) :
    ∃ W : Nat → Nat → St → Hp → Prop, (∃ m, W 0 m σ H) ∧ ∀ i m σ H, W i m σ H →
      ((Itl K a).stop i H ∧ D.nx σ H) ∨ ((Itl K a).go i H ∧ ∃ N : St → Hp → Prop, (∀ σ' H', N σ' H' → ∃ m', m' < m ∧ W (i + 1) m' σ' H') ∧ ∀ x H', (Itl K a).yld i H x H' → g x σ H' fun σ2 H2 => tb { D with nx := N, ct := N, bk := D.nx } σ2 H2) := by
  refine ⟨fun i m σ H => m = xs.length - i ∧ i ≤ xs.length ∧ Pv i σ H, ⟨xs.length, by simp, Nat.zero_le _, h0⟩, ?_⟩
  rintro i m σ H ⟨rfl, hi, p⟩
  have q := hl i σ H hi p
  by_cases hlt : i < xs.length
  · refine .inr ⟨⟨xs, xs[i], q, by simp [hlt]⟩, Pv (i + 1), fun σ' H' p' => ⟨xs.length - (i + 1), by omega, rfl, hlt, p'⟩, fun x H' y => ?_⟩
    obtain ⟨e, y⟩ := y
    subst e
    exact hs i x σ _ (y xs q) p
  · have e : i = xs.length := by omega
    subst e
    exact .inl ⟨⟨xs, q, Nat.le_refl _⟩, hd σ H p⟩
theorem for_range {lo : Int} {n : Nat} {g : TG} {tb : TS} {D : Ends} {σ : St} {H : Hp} (Pv : Nat → St → Hp → Prop) (h0 : Pv 0 σ H)
    (hs : ∀ i σ H, i < n → Pv i σ H → g (.int (lo + i)) σ H fun σ2 H2 => tb { D with nx := Pv (i + 1), ct := Pv (i + 1), bk := D.nx } σ2 H2) (hd : ∀ σ H, Pv n σ H → D.nx σ H) :
    ∃ W : Nat → Nat → St → Hp → Prop, (∃ m, W 0 m σ H) ∧ ∀ i m σ H, W i m σ H →
      ((Itr lo n).stop i H ∧ D.nx σ H) ∨ ((Itr lo n).go i H ∧ ∃ N : St → Hp → Prop, (∀ σ' H', N σ' H' → ∃ m', m' < m ∧ W (i + 1) m' σ' H') ∧ ∀ x H', (Itr lo n).yld i H x H' → g x σ H' fun σ2 H2 => tb { D with nx := N, ct := N, bk := D.nx } σ2 H2) := by
  refine ⟨fun i m σ H => m = n - i ∧ i ≤ n ∧ Pv i σ H, ⟨n, by simp, Nat.zero_le _, h0⟩, ?_⟩
  rintro i m σ H ⟨rfl, hi, p⟩
  by_cases hlt : i < n
  · refine .inr ⟨hlt, Pv (i + 1), fun σ' H' p' => ⟨n - (i + 1), by omega, rfl, hlt, p'⟩, fun x H' y => ?_⟩
    obtain ⟨e, y⟩ := y
    subst e y
    exact hs i σ _ hlt p
  · have e : i = n := by omega
    subst e
    exact .inl ⟨Nat.le_refl _, hd σ H p⟩
end L2

namespace L2
open PySem PySem.Spec PyProof.Rows

abbrev R2 := V → V → Hp → VK → Prop
/-- a two-place operation on values: f is binaryOp op, inplaceOp op or compareOp op -/
def OpR (X : Cx) (f : Value → Value → Sem Value) (r : R2) : Prop :=
  ∀ (pins : List (Addr × Obj)) (s : Shared) (σ : St) (H : Hp) (x y : V) (v u : Value) (Q : VK), Inv X pins σ H s → RelV x v → RelV y u → r x y H Q →
    wpAny (model X.prog X.w) X.A (f v u) (EP X pins σ Q) X.xe s
/-- a one-place operation -/
def UnR (X : Cx) (f : Value → Sem Value) (r : V → Hp → VK → Prop) : Prop :=
  ∀ (pins : List (Addr × Obj)) (s : Shared) (σ : St) (H : Hp) (x : V) (v : Value) (Q : VK), Inv X pins σ H s → RelV x v → r x H Q →
    wpAny (model X.prog X.w) X.A (f v) (EP X pins σ Q) X.xe s
/-- a call of a value that is known (a builtin, a type) with values -/
def CallR (X : Cx) (f : Value) (r : List V → Hp → VK → Prop) : Prop :=
  ∀ (pins : List (Addr × Obj)) (s : Shared) (σ : St) (H : Hp) (xs : List V) (us : List Value) (Q : VK), Inv X pins σ H s → Vals xs us → r xs H Q →
    wpAny (model X.prog X.w) X.A (call f us) (EP X pins σ Q) X.xe s
/-- a value's truth -/
def TruR (X : Cx) (r : V → Hp → (Bool → Hp → Prop) → Prop) : Prop :=
  ∀ (pins : List (Addr × Obj)) (s : Shared) (σ : St) (H : Hp) (x : V) (v : Value) (Q : Bool → Hp → Prop), Inv X pins σ H s → RelV x v → r x H Q →
    wpAny (model X.prog X.w) X.A (truthy v) (TP X pins σ Q) X.xe s

def tOp (r : R2) (ta tb : TE) : TE := fun σ H Q => ta σ H fun x H1 => tb σ H1 fun y H2 => r x y H2 Q
def tUn (r : V → Hp → VK → Prop) (ta : TE) : TE := fun σ H Q => ta σ H fun x H1 => r x H1 Q
/-- ints in, under C, and a value out -/
def rI (C : Int → Int → Prop) (g : Int → Int → V) : R2 := fun x y H Q => ∃ i j, x = .int i ∧ y = .int j ∧ C i j ∧ Q (g i j) H
def rI0 (g : Int → Int → V) : R2 := fun x y H Q => ∃ i j, x = .int i ∧ y = .int j ∧ Q (g i j) H
def rU (g : Int → V) : V → Hp → VK → Prop := fun x H Q => ∃ i, x = .int i ∧ Q (g i) H

section
variable {X : Cx} {a b c : Expr} {ta tb tc : TE} {pos : Pos}

theorem binT (ha : PE X a ta) (hb : PE X b tb) {pins : List (Addr × Obj)} {s : Shared} {σ : St} {H : Hp} {R : V → V → Hp → Prop} (I : Inv X pins σ H s)
    (h : ta σ H fun x H1 => tb σ H1 fun y H2 => R x y H2) {Q : Value → Shared → Prop} {f : Value → Value → Sem Value}
    (hf : ∀ v u s2 x y H2, Inv X pins σ H2 s2 → RelV x v → RelV y u → R x y H2 → wpAny (model X.prog X.w) X.A (f v u) Q X.xe s2) :
    wpAny (model X.prog X.w) X.A (eval a X.env) (fun v s₁ => wpAny (model X.prog X.w) X.A (eval b X.env) (fun u s₂ => wpAny (model X.prog X.w) X.A (f v u) Q X.xe s₂) X.xe s₁) X.xe s := by
  refine thn (ha pins s σ H _ I h) fun v s1 ⟨x, H1, I1, r1, q1⟩ => ?_
  refine thn (hb pins s1 σ H1 _ I1 q1) fun u s2 ⟨y, H2, I2, r2, q2⟩ => ?_
  exact hf v u s2 x y H2 I2 r1 r2 q2

theorem pe_op {op : Operator} {r : R2} (ho : OpR X (binaryOp op) r) (ha : PE X a ta) (hb : PE X b tb) : PE X (.BinOp a op b pos) (tOp r ta tb) := by
  intro pins s σ H Q I h
  exact wpAny_BinOp (binT ha hb I h fun v u s2 x y H2 I2 rx ry q => ho pins s2 σ H2 x y v u Q I2 rx ry q)
theorem pe_un {op : UnaryOp} {r : V → Hp → VK → Prop} (ho : UnR X (unaryOp op) r) (ha : PE X a ta) : PE X (.UnaryOp op a pos) (tUn r ta) := by
  intro pins s σ H Q I h
  exact UnaryOp_ (thn (ha pins s σ H _ I h) fun v s1 ⟨x, H1, I1, r1, q1⟩ => ho pins s1 σ H1 x v Q I1 r1 q1)

/-! ### ints -/
theorem opI {f : Value → Value → Sem Value} {C : Int → Int → Prop} {g : Int → Int → Int}
    (rule : ∀ (i j : Int) (t u : Tok) (s : Shared) (Q : Value → Shared → Prop) (E : Value → Shared → Prop), C i j → Q (.int (g i j) s.toks) { s with toks := s.toks + 1 } → wpAny (model X.prog X.w) X.A (f (.int i t) (.int j u)) Q E s) :
    OpR X f (rI C fun i j => .int (g i j)) := by
  intro pins s σ H x y v u Q I rx ry h
  obtain ⟨i, j, rfl, rfl, hc, q⟩ := h
  obtain ⟨t, rfl⟩ := rx
  obtain ⟨t', rfl⟩ := ry
  exact rule i j t t' s _ _ hc ⟨.int (g i j), H, I.tok _, ⟨_, rfl⟩, q⟩
theorem opI0 {f : Value → Value → Sem Value} {g : Int → Int → Int}
    (rule : ∀ (i j : Int) (t u : Tok) (s : Shared) (Q : Value → Shared → Prop) (E : Value → Shared → Prop), Q (.int (g i j) s.toks) { s with toks := s.toks + 1 } → wpAny (model X.prog X.w) X.A (f (.int i t) (.int j u)) Q E s) :
    OpR X f (rI0 fun i j => .int (g i j)) := by
  intro pins s σ H x y v u Q I rx ry h
  obtain ⟨i, j, rfl, rfl, q⟩ := h
  obtain ⟨t, rfl⟩ := rx
  obtain ⟨t', rfl⟩ := ry
  exact rule i j t t' s _ _ ⟨.int (g i j), H, I.tok _, ⟨_, rfl⟩, q⟩
theorem opB0 {f : Value → Value → Sem Value} {g : Int → Int → Bool}
    (rule : ∀ (i j : Int) (t u : Tok) (s : Shared) (Q : Value → Shared → Prop) (E : Value → Shared → Prop), Q (.bool (g i j)) s → wpAny (model X.prog X.w) X.A (f (.int i t) (.int j u)) Q E s) :
    OpR X f (rI0 fun i j => .bl (g i j)) := by
  intro pins s σ H x y v u Q I rx ry h
  obtain ⟨i, j, rfl, rfl, q⟩ := h
  obtain ⟨t, rfl⟩ := rx
  obtain ⟨t', rfl⟩ := ry
  exact rule i j t t' s _ _ ⟨.bl (g i j), H, I, rfl, q⟩

def CDiv (i j : Int) : Prop := 0 < j ∧ j < 1073741824
def CDivN (i j : Int) : Prop := j ≠ 0 ∧ j.natAbs < 1073741824
def CPow (i j : Int) : Prop := 0 ≤ j ∧ j ≤ 1000000 ∧ i.natAbs < 2 ^ 64
def CMul (i j : Int) : Prop := (-(2 ^ 64) < i ∧ i < 2 ^ 64) ∨ (-(2 ^ 64) < j ∧ j < 2 ^ 64)
theorem CMul.ok {i j : Int} (h : CMul i j) : IntMulOk i j := by
  rcases h with ⟨h1, h2⟩ | ⟨h1, h2⟩
  · exact .of_left (intBits_le_64 h1 h2)
  · exact .of_right (intBits_le_64 h1 h2)

theorem op_add : OpR X (binaryOp .Add) (rI0 fun i j => .int (i + j)) := opI0 fun _ _ _ _ _ _ _ q => add_int q
theorem op_sub : OpR X (binaryOp .Sub) (rI0 fun i j => .int (i - j)) := opI0 fun _ _ _ _ _ _ _ q => sub_int q
theorem op_mul : OpR X (binaryOp .Mult) (rI CMul fun i j => .int (i * j)) := opI fun _ _ _ _ _ _ _ hc q => mul_int q hc.ok
/-- // by a positive divisor -/
theorem op_fdiv : OpR X (binaryOp .FloorDiv) (rI CDiv fun i j => .int (i / j)) := opI fun i j _ _ _ _ _ hc q => by
  have h1 : (0 : Int) < j := hc.1
  have h2 : j < 1073741824 := hc.2
  exact floordiv_int (by omega) (by rw [Int.fdiv_eq_ediv_of_nonneg i (by omega)]; exact q) (.inl (PyProof.noPylong_small (by omega)))
/-- % by a positive divisor of any size -/
theorem op_mod : OpR X (binaryOp .Mod) (rI (fun _ j => 0 < j) fun i j => .int (i % j)) := opI fun i j _ _ _ _ _ hc q => by
  have h1 : (0 : Int) < j := hc
  exact mod_int' (by omega) (by rw [Int.fmod_eq_emod_of_nonneg i (by omega)]; exact q)
theorem op_pow : OpR X (binaryOp .Pow) (rI CPow fun i j => .int (i ^ j.toNat)) := opI fun _ _ _ _ _ _ _ hc q => pow_int_small hc.1 hc.2.1 hc.2.2 q

theorem unI {f : Value → Sem Value} {g : Int → Int}
    (rule : ∀ (i : Int) (t : Tok) (s : Shared) (Q : Value → Shared → Prop) (E : Value → Shared → Prop), Q (.int (g i) s.toks) { s with toks := s.toks + 1 } → wpAny (model X.prog X.w) X.A (f (.int i t)) Q E s) :
    UnR X f (rU fun i => .int (g i)) := by
  intro pins s σ H x v Q I rx h
  obtain ⟨i, rfl, q⟩ := h
  obtain ⟨t, rfl⟩ := rx
  exact rule i t s _ _ ⟨.int (g i), H, I.tok _, ⟨_, rfl⟩, q⟩
theorem un_neg : UnR X (unaryOp .USub) (rU fun i => .int (-i)) := unI fun _ _ _ _ _ q => neg_int q

/-! ### bools among ints: n += (a < b) -/
end

/-! ### comparisons -/
/-- the scalars that == tells apart as data does -/
def scal : V → V → Bool
  | .non, .non => true | .non, .int _ => true | .int _, .non => true | .non, .bl _ => true | .bl _, .non => true | .non, .str _ => true | .str _, .non => true
  | .int _, .int _ => true | .bl _, .bl _ => true | .str _, .str _ => true | .byt _, .byt _ => true
  | .int _, .str _ => true | .str _, .int _ => true | .bl _, .str _ => true | .str _, .bl _ => true
  | _, _ => false
def rEq : R2 := fun x y H Q => scal x y = true ∧ Q (.bl (decide (x = y))) H
def rNe : R2 := fun x y H Q => scal x y = true ∧ Q (.bl (!decide (x = y))) H

theorem dec_int {i j : Int} : decide (V.int i = V.int j) = (i == j) := by
  rw [Bool.eq_iff_iff]
  simp
theorem dec_bl {i j : Bool} : decide (V.bl i = V.bl j) = (i == j) := by
  rw [Bool.eq_iff_iff]
  simp
theorem dec_str {i j : Str} : decide (V.str i = V.str j) = (i == j) := by
  rw [Bool.eq_iff_iff]
  simp
theorem dec_byt {i j : Array UInt8} : decide (V.byt i = V.byt j) = (i.toList == j.toList) := by
  rw [Bool.eq_iff_iff]
  cases i
  cases j
  simp

section
variable {X : Cx} {a b c : Expr} {ta tb tc : TE} {pos : Pos}
theorem fin_bl {pins : List (Addr × Obj)} {σ : St} {H : Hp} {s : Shared} {Q : VK} {k k' : Bool} (I : Inv X pins σ H s) (q : Q (.bl k) H) (e : k = k') : EP X pins σ Q (.bool k') s := by
  subst e
  exact ⟨.bl k, H, I, rfl, q⟩
theorem op_eq : OpR X (compareOp .Eq) rEq := by
  intro pins s σ H x y v u Q I rx ry h
  obtain ⟨hs, q⟩ := h
  cases x with
  | non =>
    cases rx
    cases y with
    | non => cases ry; exact PySem.EqNone.eq_none_none (fin_bl I q (by simp))
    | bl j => cases ry; exact PySem.EqNone.eq_none_bool (fin_bl I q (by simp))
    | int j => obtain ⟨t', rfl⟩ := ry; exact PySem.EqNone.eq_none_int (fin_bl I q (by simp))
    | str j => obtain ⟨t', rfl⟩ := ry; exact PySem.EqNone.eq_none_str (fin_bl I q (by simp))
    | _ => exact absurd (show false = true from hs) Bool.false_ne_true
  | bl i =>
    cases rx
    cases y with
    | non => cases ry; exact PySem.EqNone.eq_bool_none (fin_bl I q (by simp))
    | bl j => cases ry; exact eq_bool (fin_bl I q dec_bl)
    | str j => obtain ⟨t', rfl⟩ := ry; exact PySem.EqMixed.eq_bool_str (fin_bl I q (by simp))
    | _ => exact absurd (show false = true from hs) Bool.false_ne_true
  | int i =>
    obtain ⟨t, rfl⟩ := rx
    cases y with
    | non => cases ry; exact PySem.EqNone.eq_int_none (fin_bl I q (by simp))
    | int j => obtain ⟨t', rfl⟩ := ry; exact eq_int (fin_bl I q dec_int)
    | str j => obtain ⟨t', rfl⟩ := ry; exact PySem.EqMixed.eq_int_str (fin_bl I q (by simp))
    | _ => exact absurd (show false = true from hs) Bool.false_ne_true
  | str i =>
    obtain ⟨t, rfl⟩ := rx
    cases y with
    | non => cases ry; exact PySem.EqNone.eq_str_none (fin_bl I q (by simp))
    | bl j => cases ry; exact PySem.EqMixed.eq_str_bool (fin_bl I q (by simp))
    | int j => obtain ⟨t', rfl⟩ := ry; exact PySem.EqMixed.eq_str_int (fin_bl I q (by simp))
    | str j => obtain ⟨t', rfl⟩ := ry; exact eq_str (fin_bl I q dec_str)
    | _ => exact absurd (show false = true from hs) Bool.false_ne_true
  | byt i =>
    obtain ⟨t, rfl⟩ := rx
    cases y with
    | byt j => obtain ⟨t', rfl⟩ := ry; exact PySem.W.eq_bytes (fin_bl I q dec_byt)
    | _ => exact absurd (show false = true from hs) Bool.false_ne_true
  | _ => cases y <;> exact absurd (show false = true from hs) Bool.false_ne_true

theorem op_lt : OpR X (compareOp .Lt) (rI0 fun i j => .bl (decide (i < j))) := opB0 fun _ _ _ _ _ _ _ q => lt_int q
theorem op_ge : OpR X (compareOp .GtE) (rI0 fun i j => .bl (decide (j ≤ i))) := opB0 fun _ _ _ _ _ _ _ q => ge_int q

/-- is, is not of two objects that are tracked lists or instances -/
def isObj : HO → Bool
  | .lst _ => true
  | .ins _ _ _ => true
  | _ => false

/-- two rules for one operation: by cases -/
theorem OpR.or {f : Value → Value → Sem Value} {r r' : R2} (h : OpR X f r) (h' : OpR X f r') : OpR X f (fun x y H Q => r x y H Q ∨ r' x y H Q) := by
  intro pins s σ H x y v u Q I rx ry q
  rcases q with q | q
  · exact h pins s σ H x y v u Q I rx ry q
  · exact h' pins s σ H x y v u Q I rx ry q

theorem nomark (b : Expr) {op : CmpOp} (h : op ≠ .In := by decide) (h2 : op ≠ .NotIn := by decide) : behindInMarks op b = false := by
  have e1 : (op == CmpOp.In) = false := by cases op <;> first | rfl | exact absurd rfl h
  have e2 : (op == CmpOp.NotIn) = false := by cases op <;> first | rfl | exact absurd rfl h2
  cases b <;> simp [behindInMarks, e1, e2]
/-- a comparison as a value; hm: nomark b, or (for in, not in) by with_unfolding_all rfl -/
theorem pe_cmpR {op : CmpOp} {r : R2} (ho : OpR X (compareOp op) r) (ha : PE X a ta) (hb : PE X b tb) (hm : behindInMarks op b = false) : PE X (.Compare a [op] [b] pos) (tOp r ta tb) := by
  intro pins s σ H Q I h
  exact wpAny_Compare1 (binT ha hb I h fun v u s2 x y H2 I2 rx ry q => ho pins s2 σ H2 x y v u Q I2 rx ry q) hm
/-- a reading of a value as a test -/
def tTest (t : TE) : TT := fun σ H Q => t σ H fun x H' => ∃ k, x = .bl k ∧ Q k H'
theorem pt_cmpR {op : CmpOp} {r : R2} (ho : OpR X (compareOp op) r) (ha : PE X a ta) (hb : PE X b tb) (hm : behindInMarks op b = false) : PT X (.Compare a [op] [b] pos) (tTest (tOp r ta tb)) := by
  intro pins s σ H Q I h
  refine wpAny_isTrue_Compare1 (thn (ha pins s σ H _ I h) fun v s1 ⟨x, H1, I1, r1, q1⟩ => thn (hb pins s1 σ H1 _ I1 q1) fun u s2 ⟨y, H2, I2, r2, q2⟩ =>
    thn (ho pins s2 σ H2 x y v u _ I2 r1 r2 q2) fun c s3 ⟨z, H3, I3, r3, k, e, q3⟩ => ?_) hm
  subst e
  cases r3
  exact wpAny_truthy_bool ⟨H3, I3, q3⟩
/-- a op1 b op2 c -/
def tChain (r r' : R2) (ta tb tc : TE) : TE := fun σ H Q => ta σ H fun x H1 => tb σ H1 fun y H2 => r x y H2 fun z H3 => ∃ k, z = .bl k ∧
  (if k = true then tc σ H3 fun w' H4 => r' y w' H4 Q else Q (.bl false) H3)

/-! ### truth -/
/-- a value's truth by the abstract heap -/
def TruV (K : PySem.W.Frag) (x : V) (H : Hp) (k : Bool) : Prop :=
  match x with
  | .non => k = false
  | .bl b => k = b
  | .int i => k = (i != 0)
  | .str y => y.length ≤ sizeLine ∧ k = ((y.length : Int) != 0)
  | .byt y => y.size ≤ sizeLine ∧ k = ((y.size : Int) != 0)
  | .ref p => (∃ xs, SqL K H p xs ∧ k = !xs.isEmpty) ∨ (∃ xs, SqT K H p xs ∧ k = !xs.isEmpty) ∨ ∃ kvs, H p = some (.dK kvs) ∧ k = !kvs.isEmpty
  | _ => False
theorem line63 : (sizeLine : Nat) < 2 ^ 63 := by rw [sizeLine_eq]; decide

/-! ### strs and bytes -/

def PlainIxT (b : Expr) : Prop := ∀ o i, subscripted b false o i = operate [o, i] (getItem o i)

/-! ### scalar builtins, by CallR -/
theorem vals1 {x : V} {us : List Value} (r : Vals [x] us) : ∃ u, us = [u] ∧ RelV x u := by
  cases r with
  | cons r1 r2 => cases r2; exact ⟨_, rfl, r1⟩
theorem vals2 {x y : V} {us : List Value} (r : Vals [x, y] us) : ∃ u w', us = [u, w'] ∧ RelV x u ∧ RelV y w' := by
  cases r with
  | cons r1 r2 =>
    cases r2 with
    | cons r3 r4 => cases r4; exact ⟨_, _, rfl, r1, r3⟩
theorem call_abs : CallR X (.builtin "abs") (fun xs H Q => ∃ i, xs = [.int i] ∧ Q (.int (if i < 0 then -i else i)) H) := by
  intro pins s σ H xs us Q I r h
  obtain ⟨i, rfl, q⟩ := h
  obtain ⟨u, rfl, t, rfl⟩ := vals1 r
  exact call_abs_int fun u tk => ⟨.int (if i < 0 then -i else i), H, I.tok _, ⟨_, rfl⟩, q⟩
theorem call_int1 : CallR X (.type "int") (fun xs H Q => (∃ i, xs = [.int i] ∧ Q (.int i) H) ∨ ∃ k, xs = [.bl k] ∧ Q (.int (if k then 1 else 0)) H) := by
  intro pins s σ H xs us Q I r h
  rcases h with ⟨i, rfl, q⟩ | ⟨k, rfl, q⟩
  · obtain ⟨u, rfl, t, rfl⟩ := vals1 r
    exact call_int_int ⟨.int i, H, I, ⟨_, rfl⟩, q⟩
  · obtain ⟨u, rfl, r1⟩ := vals1 r
    cases r1
    exact call_int_bool ⟨.int (if k then 1 else 0), H, I.tok _, ⟨_, rfl⟩, q⟩
/-- len of a str, a bytes, a list, a tuple -/
def LenV (K : PySem.W.Frag) (x : V) (H : Hp) (n : Nat) : Prop :=
  match x with
  | .str y => y.length ≤ sizeLine ∧ n = y.length
  | .byt y => y.size ≤ sizeLine ∧ n = y.size
  | .ref p => (∃ xs, SqL K H p xs ∧ n = xs.length) ∨ ∃ xs, SqT K H p xs ∧ n = xs.length
  | _ => False
end
end L2

namespace L2
open PySem PySem.Spec PyProof.Rows

/-! ### an instance, its attributes a map -/
structure ObjM (h : Heap) (x dx C : Addr) (mA : Str → Option Value) : Prop where
  obj : h.get? x = some (PySem.W.instObj C dx)
  ns : h.Ns1 dx mA
  ne : dx ≠ x

theorem lookIn_ns {h : Heap} {dx : Addr} {mA : Str → Option Value} (n : h.Ns1 dx mA) : ∃ od, h.get? dx = some od ∧ ∀ name, PySem.W.lookIn name od = some (mA name) := by
  obtain ⟨o, es, ep, ho, hd, hk, _, hm⟩ := n
  refine ⟨o, ho, fun name => ?_⟩
  have e := hm name
  unfold nsFind findBy at e
  rw [← Array.find?_toList] at e
  unfold PySem.W.lookIn
  rw [hd]
  dsimp only
  split
  · rename_i y q
    rw [q] at e
    exact congrArg some e
  · rename_i q
    rw [q] at e
    have a : es.toList.any (·.refKey) = false := by
      rw [List.any_eq_false]
      intro y hy
      obtain ⟨z, t, hkey⟩ := hk y (Array.mem_toList_iff.mp hy)
      simp [DictEntry.refKey, hkey]
    have a' : ¬ es.toList.any (·.refKey) = true := by rw [a]; exact Bool.false_ne_true
    rw [if_neg a']
    exact congrArg some e

theorem ObjM.look {h : Heap} {x dx C : Addr} {mA : Str → Option Value} (I : ObjM h x dx C mA) : ∃ od, PySem.W.InstAt h x (PySem.W.instObj C dx) C (some od) ∧ ∀ name, PySem.W.lookIn name od = some (mA name) :=
  let ⟨od, ho, hl⟩ := lookIn_ns I.ns
  ⟨od, ⟨I.obj, rfl, rfl, ho⟩, hl⟩

section
variable {prog : Program} {w : World} {A : Around} {E : Value → Shared → Prop} {s : Shared} {K : PySem.W.Frag} {x dx C f : Addr} {mA : Str → Option Value} {name : Str} {v : Value}

theorem get_map {expr : Bool} {Q : Value → Shared → Prop} (X : K.In s.heap) (I : ObjM s.heap x dx C mA) (hg : PySem.W.plainGet K C name = true) (hh : PySem.W.hasDictIn K C = true)
    (ha : PySem.W.findIn K (.ref C) name = some none) (hv : mA name = some v) (hv' : PySem.W.handedIn v = true) (h : Q v { s with toks := s.toks + 1 }) :
    wpAny (model prog w) A (getAttr (.ref x) name expr) Q E s := by
  obtain ⟨od, J, hl⟩ := I.look
  exact PySem.W.get_value X J (PySem.W.plainGet_of hg).1 (PySem.W.findObj_own hh ha rfl (by rw [hl, hv])) hv' h

theorem set_map {ns : List Str} {Q : Unit → Shared → Prop} (X : K.In s.heap) (I : ObjM s.heap x dx C mA)
    (hs : PySem.W.findIn K (.ref C) "__setattr__" = some (some (.builtin "object.__setattr__"))) (hp : PySem.W.plainOver K C = true) (ht : PySem.W.takerIn K C name = some none) (hh : PySem.W.hasDictIn K C = true)
    (hw : PySem.Within mA ns) (hsz : ns.length ≤ sizeLine)
    (h : ∀ h', ObjM h' x dx C (fun y => if y = name then some v else mA y) → Heap.SameBut dx s.heap h' → Q () { s with heap := h', toks := s.toks + 2 }) :
    wpAny (model prog w) A (setAttr (.ref x) name v) Q E s := by
  obtain ⟨od, J, hl⟩ := I.look
  refine PySem.W.set_plain X J hs (PySem.W.osa_open (s := { s with toks := s.toks + 1 }) (r := none) X J hp ht fun b => ?_)
  obtain ⟨cd, hc, hd'⟩ := PySem.W.any_some hh
  have hx : s.heap.get? x = some ⟨.ref C, some dx, .plain, #[]⟩ := I.obj
  refine wpAny_bind (wpAny_pure (wpAny_bind (wpAny_bind (wpAny_loadPart hx (wpAny_bind (PySem.W.Looks.here (s := { s with toks := s.toks + 1 }) (PySem.W.looks_clsIn X hc) ?_))))))
  rw [hd']
  refine wpAny_pure (a := some dx) (wpAny_bind (wpAny_pure (wpAny_bind ?_)))
  refine wpAny_nsSet1 (s := { s with toks := s.toks + 1 }) I.ns fun h' hn2 hs2 => ?_
  obtain ⟨oD, esD, epD, hoD, hdD, hcD⟩ := hn2.count (PySem.Within.cons name v hw)
  refine wpAny_bind (wpAny_lookBehind hoD (by rw [hdD]; exact pastItsLine_dict (Nat.le_trans hcD (by rw [List.length_cons]; omega))) ?_)
  exact wpAny_pure (h _ ⟨(hs2.2 _ (Ne.symm I.ne)).trans I.obj, hn2, I.ne⟩ hs2)

/-- C(..): the dict at the heap's end, the instance behind it; then its __init__ -/
theorem make_map {R : Result → Shared → Prop} {vs : List Value} {kw : List (Str × Value)} (X : K.In s.heap) (hm : PySem.W.makesIn K C = true)
    (hi : PySem.W.findIn K (.ref C) "__init__" = some (some (.ref f))) (hf : PySem.W.typeIn K (.ref f) = some (.type "function"))
    (h : codeAny (model prog w) (A.under (.builtin "type.__call__" ⟨.ref C :: vs, kw⟩)) (.call (.ref f) ⟨.ref (s.heap.objs.size + 1) :: vs, kw⟩) (PySem.W.InitBack (s.heap.objs.size + 1) R)
      { s with heap := (s.heap.push PySem.W.emptyDict).push (PySem.W.instObj C s.heap.objs.size) }) :
    codeAny (model prog w) A (.call (.ref C) ⟨vs, kw⟩) R s := by
  obtain ⟨hh, g, d, t, os⟩ := s
  exact PySem.W.make_core (PySem.W.makes_of X hm) (PySem.W.looks_findIn X hi) (fun self => PySem.W.bind_fn X self hf) (.inl rfl) h
end

/-! ### the attributes as a list of pairs -/
def putF (f : Str) (v : V) : List (Str × V) → List (Str × V)
  | [] => [(f, v)]
  | (g, x) :: r => if g = f then (g, v) :: r else (g, x) :: putF f v r
theorem lookup_putF (f g : Str) (v : V) : ∀ fs : List (Str × V), (putF f v fs).lookup g = if g = f then some v else fs.lookup g
  | [] => by
    show List.lookup g [(f, v)] = _
    by_cases h : g = f
    · have hb : (g == f) = true := beq_iff_eq.mpr h
      simp only [List.lookup, hb, if_pos h]
    · have hb : (g == f) = false := beq_eq_false_iff_ne.mpr h
      simp only [List.lookup, hb, if_neg h]
  | (k, x) :: r => by
    have ih := lookup_putF f g v r
    rw [show putF f v ((k, x) :: r) = (if k = f then (k, v) :: r else (k, x) :: putF f v r) from rfl]
    by_cases hk : k = f
    · rw [if_pos hk]
      by_cases h : g = k
      · have hb : (g == k) = true := beq_iff_eq.mpr h
        simp only [List.lookup, hb, if_pos (h.trans hk)]
      · have hb : (g == k) = false := beq_eq_false_iff_ne.mpr h
        simp only [List.lookup, hb, if_neg (fun e : g = f => h (e.trans hk.symm))]
    · rw [if_neg hk]
      by_cases h : g = k
      · have hb : (g == k) = true := beq_iff_eq.mpr h
        simp only [List.lookup, hb, if_neg (fun e : g = f => hk (h.symm.trans e))]
      · have hb : (g == k) = false := beq_eq_false_iff_ne.mpr h
        simp only [List.lookup, hb]
        exact ih
theorem keys_putF (f : Str) (v : V) : ∀ fs : List (Str × V), f ∈ (putF f v fs).map (·.1) ∧ ∀ g, g ∈ fs.map (·.1) → g ∈ (putF f v fs).map (·.1)
  | [] => ⟨by simp [putF], fun g h => by simp at h⟩
  | (k, x) :: r => by
    obtain ⟨i1, i2⟩ := keys_putF f v r
    rw [show putF f v ((k, x) :: r) = (if k = f then (k, v) :: r else (k, x) :: putF f v r) from rfl]
    by_cases hk : k = f
    · rw [if_pos hk]
      subst hk
      exact ⟨by simp, fun g h => by simpa using h⟩
    · rw [if_neg hk]
      refine ⟨?_, fun g h => ?_⟩
      · rw [List.map_cons]
        exact List.mem_cons_of_mem _ i1
      · rw [List.map_cons] at h ⊢
        rcases List.mem_cons.mp h with e | e
        · exact List.mem_cons.mpr (.inl e)
        · exact List.mem_cons_of_mem _ (i2 g e)
theorem length_putF (f : Str) (v : V) : ∀ fs : List (Str × V), (putF f v fs).length ≤ fs.length + 1
  | [] => by simp [putF]
  | (k, x) :: r => by
    have ih := length_putF f v r
    rw [show putF f v ((k, x) :: r) = (if k = f then (k, v) :: r else (k, x) :: putF f v r) from rfl]
    by_cases hk : k = f
    · rw [if_pos hk, List.length_cons, List.length_cons]; omega
    · rw [if_neg hk, List.length_cons, List.length_cons]; omega

theorem RelO.some_of {v : V} {o : Option Value} (r : RelO (some v) o) : ∃ u, o = some u ∧ RelV v u := by
  cases o with
  | none => exact (show False from r).elim
  | some u => exact ⟨u, rfl, r⟩
theorem RelO.none_of {o : Option Value} (r : RelO none o) : o = none := by
  cases o with
  | none => rfl
  | some u => exact (show False from r).elim
theorem handed_of {v : V} {u : Value} (r : RelV v u) : PySem.W.handedIn u = true := by
  cases v with
  | non => cases (show u = Value.none from r); rfl
  | bl b => cases (show u = Value.bool b from r); rfl
  | int i => obtain ⟨t, e⟩ := (show ∃ t, u = Value.int i t from r); cases e; rfl
  | str x => obtain ⟨t, e⟩ := (show ∃ t, u = Value.str x t from r); cases e; rfl
  | byt b => obtain ⟨t, e⟩ := (show ∃ t, u = Value.bytes b t from r); cases e; rfl
  | flt b => obtain ⟨t, e⟩ := (show ∃ t, u = Value.float b t from r); cases e; rfl
  | ref a => cases (show u = Value.ref a from r); rfl
  | ty n => cases (show u = Value.type n from r); rfl

section
variable {P : Program} {w : World} {H H' : Hp} {h h' : Heap} {a C dx : Addr} {fs fs' : List (Str × V)}
theorem ins_get (hok : HOk P w H h) (e : H a = some (.ins C dx fs)) : ∃ mA, ObjM h a dx C mA ∧ (∀ f, RelO (fs.lookup f) (mA f)) ∧ PySem.Within mA (fs.map (·.1)) ∧ fs.length ≤ 1000 ∧ H dx = some (.own a) := by
  obtain ⟨d, z, ne, ob, mA, n, r, q⟩ := (show ObjOk P w H h a (.ins C dx fs) from hok a _ e)
  exact ⟨mA, ⟨ob, n, ne⟩, r, q, z, d⟩
end

/-! ### what of the text a class must have -/
structure Cls (K : PySem.W.Frag) (C : Addr) : Prop where
  pg : PySem.W.plainGet K C Str.empty = true
  hd : PySem.W.hasDictIn K C = true
  po : PySem.W.plainOver K C = true
  sa : PySem.W.findIn K (.ref C) "__setattr__" = some (some (.builtin "object.__setattr__"))
theorem Cls.get {K : PySem.W.Frag} {C : Addr} (c : Cls K C) (f : Str) : PySem.W.plainGet K C f = true := c.pg
/-- no class of it has the name -/
def NoAttr (K : PySem.W.Frag) (C : Addr) (f : Str) : Prop := PySem.W.findIn K (.ref C) f = some none
theorem NoAttr.taker {K : PySem.W.Frag} {C : Addr} {f : Str} (n : NoAttr K C f) : PySem.W.takerIn K C f = some none := by
  unfold PySem.W.takerIn
  rw [show PySem.W.findIn K (.ref C) f = some none from n]
  rfl
/-- a constant of the class -/
structure Con (K : PySem.W.Frag) (C : Addr) (f : Str) (v : V) (u : Value) : Prop where
  at_ : PySem.W.findIn K (.ref C) f = some (some u)
  rel : RelV v u
  get : PySem.W.specialIn K u "__get__" = some none
  cp : PySem.W.copiedNames.contains f = false
/-- a method: a plain def of the class or of one above it -/
structure Meth (K : PySem.W.Frag) (C : Addr) (m : Str) (f : Addr) : Prop where
  at_ : PySem.W.findIn K (.ref C) m = some (some (.ref f))
  fn : PySem.W.isFn K (.ref f) = true
  kp : PySem.W.keepIn K (.ref f) = true

section
variable {X : Cx} {pins : List (Addr × Obj)} {σ : St} {H : Hp} {s : Shared} {a C dx : Addr} {fs : List (Str × V)} {f : Str} {v : V} {A : Around} {E : Value → Shared → Prop}

theorem getattr_ok {b : Bool} {Q : Value → Shared → Prop} (I : Inv X pins σ H s) (e : H a = some (.ins C dx fs)) (c : Cls X.K C) (n : NoAttr X.K C f) (l : fs.lookup f = some v)
    (h : ∀ u s', Inv X pins σ H s' → RelV v u → Q u s') : wpAny (model X.prog X.w) A (getAttr (.ref a) f b) Q E s := by
  obtain ⟨mA, O, r, _, _, _⟩ := ins_get I.hok e
  obtain ⟨u, hu, ru⟩ := RelO.some_of (v := v) (o := mA f) (by rw [← l]; exact r f)
  exact get_map I.kIn O (c.get f) c.hd n hu (handed_of ru) (h u _ (I.tok _) ru)

theorem setattr_ok {y : V} {u : Value} {Q : Unit → Shared → Prop} (I : Inv X pins σ H s) (e : H a = some (.ins C dx fs)) (c : Cls X.K C) (n : NoAttr X.K C f) (hl : fs.length < 1000) (ry : RelV y u)
    (h : ∀ s', Inv X pins σ (upd H a (.ins C dx (putF f y fs))) s' → Q () s') : wpAny (model X.prog X.w) A (setAttr (.ref a) f u) Q E s := by
  obtain ⟨mA, O, r, wi, _, ho⟩ := ins_get I.hok e
  have hz : (fs.map (·.1)).length ≤ sizeLine := by rw [List.length_map, sizeLine_eq]; omega
  refine set_map I.kIn O c.sa c.po n.taker c.hd wi hz fun h' O' sb => h _ ?_
  have hd : ∃ o, h'.get? dx = some o := let ⟨o, _, _, e', _⟩ := O'.ns; ⟨o, e'⟩
  refine I.write (x := a) (e := dx) (by rw [e]; exact True.intro) (.inr ho) (fun b q hb z => (sb.2 b hb).trans z) hd ?_
  refine ⟨by rw [upd_ne O.ne]; exact ho, ?_, O.ne, O'.obj, _, O'.ns, fun g => ?_, fun g hg => ?_⟩
  · have := length_putF f y fs; omega
  · show RelO ((putF f y fs).lookup g) (if g = f then some u else mA g)
    rw [lookup_putF]
    by_cases q : g = f
    · rw [if_pos q, if_pos q]; exact ry
    · rw [if_neg q, if_neg q]; exact r g
  · by_cases q : g = f
    · rw [q]; exact (keys_putF f y fs).1
    · refine (keys_putF f y fs).2 g (wi g fun z => hg ?_)
      show (if g = f then some u else mA g) = none
      rw [if_neg q]; exact z

/-- a new instance, tracked, without attributes -/
theorem Inv.made (I : Inv X pins σ H s) : Inv X pins σ (upd (upd H s.heap.objs.size (.own (s.heap.objs.size + 1))) (s.heap.objs.size + 1) (.ins C s.heap.objs.size []))
    { s with heap := (s.heap.push PySem.W.emptyDict).push (PySem.W.instObj C s.heap.objs.size) } := by
  have e1 : (s.heap.push PySem.W.emptyDict).get? s.heap.objs.size = some PySem.W.emptyDict := Heap.get?_push_size s.heap rfl
  have e2 : ((s.heap.push PySem.W.emptyDict).push (PySem.W.instObj C s.heap.objs.size)).get? (s.heap.objs.size + 1) = some (PySem.W.instObj C s.heap.objs.size) := by
    have := Heap.get?_push_size (s.heap.push PySem.W.emptyDict) (o := PySem.W.instObj C s.heap.objs.size) rfl
    rwa [Heap.size_push] at this
  have e3 : (s.heap.push PySem.W.emptyDict).Ns s.heap.objs.size (fun _ => none) := ⟨PySem.W.emptyDict, #[], _, e1, rfl, (fun e he => absurd he (by simp)), fun _ => rfl⟩
  have I1 := I.laid (a := s.heap.objs.size) (o := .own (s.heap.objs.size + 1)) (h' := s.heap.push PySem.W.emptyDict) (t' := s.toks) (fun b u q => Heap.get?_push_of_some _ q) (Nat.le_refl _) ⟨_, e1⟩
  refine I1.laid (a := s.heap.objs.size + 1) (o := .ins C s.heap.objs.size []) (t' := s.toks) (fun b u q => Heap.get?_push_of_some _ q) (Nat.le_of_eq (Heap.size_push _ _)) ?_
  have ne : s.heap.objs.size ≠ s.heap.objs.size + 1 := Nat.ne_of_lt (Nat.lt_succ_self _)
  refine ⟨by rw [upd_ne ne, upd_same], Nat.zero_le _, ne, e2, fun _ => none, (Heap.Ns1.of_empty e3).at fun o q => Heap.get?_push_of_some _ q, fun _ => True.intro, fun y hy => absurd rfl hy⟩

/-- e.f where nothing but the object is asked: through attributeBase (super) and the last hold -/
theorem attr_of {prog : Program} {w : World} {env : Env} {e : Expr} {f : Str} {pos : Pos} {s : Shared} {Q : Value → Shared → Prop} (hb : attributeBase e f env (eval e env) = eval e env)
    (h : wpAny (model prog w) A (eval e env) (fun o s₁ => wpAny (model prog w) A (getAttr o f true) Q E s₁) E s) : wpAny (model prog w) A (eval (.Attribute e f pos) env) Q E s :=
  Attribute_any_ h (by rw [arm_eval_Attribute, hb])
end

/-! ### readings and rules -/
/-- e.f, an attribute of the instance -/
def tFld (K : PySem.W.Frag) (ta : TE) (f : Str) : TE := fun σ H Q => ta σ H fun x H1 => ∃ a C dx fs v, x = .ref a ∧ H1 a = some (.ins C dx fs) ∧ Cls K C ∧ NoAttr K C f ∧ fs.lookup f = some v ∧ Q v H1
/-- e.f, a constant of the class -/
def tCon (K : PySem.W.Frag) (ta : TE) (f : Str) : TE := fun σ H Q => ta σ H fun x H1 => ∃ a C dx fs v u, x = .ref a ∧ H1 a = some (.ins C dx fs) ∧ Cls K C ∧ Con K C f v u ∧ fs.lookup f = none ∧ Q v H1
/-- e.f = value -/
def sFld (K : PySem.W.Frag) (ta tv : TE) (f : Str) : TS := fun D σ H => tv σ H fun y H1 => ta σ H1 fun x H2 => ∃ a C dx fs, x = .ref a ∧ H2 a = some (.ins C dx fs) ∧ Cls K C ∧ NoAttr K C f ∧ fs.length < 1000 ∧
  D.nx σ (upd H2 a (.ins C dx (putF f y fs)))
/-- an augmented operator on two values -/
def InOp (X : Cx) (op : Operator) (rd : V → V → Hp → VK → Prop) : Prop :=
  ∀ (pins : List (Addr × Obj)) (s : Shared) (σ : St) (H : Hp) (x y : V) (u v : Value) (Q : VK), Inv X pins σ H s → RelV x u → RelV y v → rd x y H Q → wpAny (model X.prog X.w) X.A (inplaceOp op u v) (EP X pins σ Q) X.xe s
/-- e.f op= value -/
def sFldAug (K : PySem.W.Frag) (ta tv : TE) (rd : V → V → Hp → VK → Prop) (f : Str) : TS := fun D σ H => ta σ H fun x H1 => ∃ a C dx fs v, x = .ref a ∧ H1 a = some (.ins C dx fs) ∧ Cls K C ∧ NoAttr K C f ∧ fs.lookup f = some v ∧
  tv σ H1 fun y H2 => rd v y H2 fun z H3 => ∃ dx' fs', H3 a = some (.ins C dx' fs') ∧ fs'.length < 1000 ∧ D.nx σ (upd H3 a (.ins C dx' (putF f z fs')))

section
variable {X : Cx} {o e value : Expr} {f : Str} {pos pos' tpos : Pos} {ta tv : TE}
theorem pe_fld (he : PE X e ta) (hb : attributeBase e f X.env (eval e X.env) = eval e X.env) : PE X (.Attribute e f pos) (tFld X.K ta f) := by
  intro pins s σ H Q I h
  refine attr_of hb (thn (he pins s σ H _ I h) fun u s1 ⟨x, H1, I1, rx, a, C, dx, fs, v, ex, ea, c, n, l, q⟩ => ?_)
  subst ex
  obtain rfl : u = Value.ref a := rx
  exact getattr_ok I1 ea c n l fun u' s2 I2 ru => ⟨v, H1, I2, ru, q⟩
theorem ps_fld (ha : PE X o ta) (hv : PE X value tv) (hs : swapsWith value (some (.Attribute o f pos')) pos.line X.env = pure false) : PS X (.Assign [.Attribute o f pos'] value pos) (sFld X.K ta tv f) := by
  intro pins s σ H D I h
  refine plainObj_wpAny_Assign_Attribute (thn (hv pins s σ H _ I h) fun u s1 ⟨y, H1, I1, ry, q⟩ => thn (ha pins s1 σ H1 _ I1 q) fun ov s2 ⟨x, H2, I2, rx, a, C, dx, fs, ex, ea, c, n, l, q2⟩ => ?_) hs
  subst ex
  obtain rfl : ov = Value.ref a := rx
  exact setattr_ok I2 ea c n l ry fun s3 I3 => ⟨σ, _, I3, q2⟩
def rAdd : V → V → Hp → VK → Prop := fun x y H Q => ∃ i j, x = .int i ∧ y = .int j ∧ Q (.int (i + j)) H
def rSub : V → V → Hp → VK → Prop := fun x y H Q => ∃ i j, x = .int i ∧ y = .int j ∧ Q (.int (i - j)) H

end

/-! ### isinstance -/
section
variable {X : Cx} {pins : List (Addr × Obj)} {σ : St} {H : Hp} {s : Shared} {A : Around} {E : Value → Shared → Prop} {Q : Value → Shared → Prop} {c : Value} {b : Bool}
/-- the type of a value, as the fragment's deciders take it; for an instance its class -/
inductive TyOf (K : PySem.W.Frag) (H : Hp) : V → Value → Prop where
  | non : TyOf K H .non (.type "NoneType")
  | bl (x : Bool) : TyOf K H (.bl x) (.type "bool")
  | int (i : Int) : TyOf K H (.int i) (.type "int")
  | str (x : Str) : TyOf K H (.str x) (.type "str")
  | flt (x : UInt64) : TyOf K H (.flt x) (.type "float")
  | lst {a : Addr} {xs : List V} (e : H a = some (.lst xs)) : TyOf K H (.ref a) (.type "list")
  | frz {a : Addr} {o : Obj} {xs : List V} (e : H a = some (.frz o (.lst xs))) : TyOf K H (.ref a) (.type "list")
  | tup {a : Addr} {xs : List V} (e : H a = some (.tup xs)) : TyOf K H (.ref a) (.type "tuple")
  | dK {a : Addr} {kvs : List (Key × V)} (e : H a = some (.dK kvs)) : TyOf K H (.ref a) (.type "dict")
  | dT {a : Addr} {kvs : List (List Key × V)} (e : H a = some (.dT kvs)) : TyOf K H (.ref a) (.type "dict")
  | ins {a C dx : Addr} {fs : List (Str × V)} (e : H a = some (.ins C dx fs)) (cl : Cls K C) (ha : PySem.W.findIn K (.ref C) "__class__" = some (some (.builtin "object.__class__")))
      (hn : PySem.W.specialIn K (.builtin "object.__class__") "__get__" = some (some (.builtin "getset_descriptor.__get__"))) (htk : PySem.W.takesIn K (.builtin "object.__class__") = some true)
      (hm : PySem.W.mroIn K C (.type "object") = some true) : TyOf K H (.ref a) (.ref C)
/-- isinstance(x, c) for one class c, a built-in or an own one: kitOne's answer -/
theorem isinst_ok {x : V} {u t : Value} (I : Inv X pins σ H s) (rx : RelV x u) (ty : TyOf X.K H x t) (e : PySem.W.kitOne X.K t c = some b) (h : ∀ tk, Q (.bool b) { s with toks := tk }) :
    wpAny (model X.prog X.w) A (call (.builtin "isinstance") [u, c]) Q E s := by
  cases ty with
  | non => cases (show u = Value.none from rx); exact PySem.W.kia_one PySem.W.kitx_none I.kIn True.intro e (fun z => nomatch z) h
  | bl y => cases (show u = Value.bool y from rx); exact PySem.W.kia_one PySem.W.kitx_bool I.kIn True.intro e (fun z => nomatch z) h
  | int i => obtain ⟨t, q⟩ := (show ∃ t, u = Value.int i t from rx); cases q; exact PySem.W.kia_one PySem.W.kitx_int I.kIn True.intro e (fun z => nomatch z) h
  | str y => obtain ⟨t, q⟩ := (show ∃ t, u = Value.str y t from rx); cases q; exact PySem.W.kia_one PySem.W.kitx_str I.kIn True.intro e (fun z => nomatch z) h
  | flt y => obtain ⟨t, q⟩ := (show ∃ t, u = Value.float y t from rx); cases q; exact PySem.W.kia_one PySem.W.kitx_float I.kIn True.intro e (fun z => nomatch z) h
  | @lst a xs ea =>
    cases (show u = Value.ref a from rx)
    obtain ⟨_, _, n, _, h1⟩ := (show ObjOk X.prog X.w H s.heap a (.lst xs) from I.hok a _ ea)
    exact PySem.W.kia_one PySem.W.kitx_list I.kIn ⟨_, h1, rfl⟩ e (fun z => nomatch z) h
  | @frz a ob xs ea =>
    cases (show u = Value.ref a from rx)
    obtain ⟨_, _, _, n, _, h1⟩ := (show ObjOk X.prog X.w H s.heap a (.frz ob (.lst xs)) from I.hok a _ ea)
    exact PySem.W.kia_one PySem.W.kitx_list I.kIn ⟨_, h1, rfl⟩ e (fun z => nomatch z) h
  | @tup a xs ea =>
    cases (show u = Value.ref a from rx)
    obtain ⟨_, _, _, p⟩ := (show ObjOk X.prog X.w H s.heap a (.tup xs) from I.hok a _ ea)
    obtain ⟨o, h1, h2, _⟩ := p
    exact PySem.W.kia_one PySem.W.kitx_tuple I.kIn ⟨o, h1, h2⟩ e (fun z => nomatch z) h
  | @dK a kvs ea =>
    cases (show u = Value.ref a from rx)
    obtain ⟨_, _, vs, _, p⟩ := (show ObjOk X.prog X.w H s.heap a (.dK kvs) from I.hok a _ ea)
    obtain ⟨o, es, ep, h1, h2, _⟩ := p
    exact PySem.W.kia_one PySem.W.kitx_dict I.kIn ⟨o, h1, h2.1⟩ e (fun z => nomatch z) h
  | @dT a kvs ea =>
    cases (show u = Value.ref a from rx)
    obtain ⟨_, _, xs, _, o, es, ep, h1, h2, _⟩ := (show ObjOk X.prog X.w H s.heap a (.dT kvs) from I.hok a _ ea)
    exact PySem.W.kia_one PySem.W.kitx_dict I.kIn ⟨o, h1, h2.1⟩ e (fun z => nomatch z) h
  | @ins a C dx fs ea cl ha hn htk hm =>
    cases (show u = Value.ref a from rx)
    obtain ⟨mA, O, _⟩ := ins_get I.hok ea
    obtain ⟨od, J, _⟩ := O.look
    exact PySem.W.kia_one (PySem.W.kitx_own (cl.get _) cl.hd ha hn htk hm) I.kIn J e (fun z => nomatch z) h
end
end L2

namespace L2
open PySem PySem.Spec PyProof.Rows

/-! ### room -/
structure Room (k : Nat) (A : Around) : Prop where
  hd : A.handled = none
  dp : A.depth + 3 * k + 5 < recursionLimit
  un : A.units + 16 * k + 200 < cLine
theorem Room.mono {j k : Nat} {A : Around} (r : Room k A) (h : j ≤ k) : Room j A := ⟨r.hd, by have := r.dp; omega, by have := r.un; omega⟩
theorem Room.deeper {k : Nat} {A : Around} (r : Room (k + 1) A) (env : Env) : Room k (A.deeper env) :=
  ⟨r.hd, by have := r.dp; show A.depth + 1 + 3 * k + 5 < _; omega, by have := r.un; show A.units + 3 + 16 * k + 200 < _; omega⟩
theorem Room.in1 {k : Nat} {A : Around} (r : Room (k + 1) A) : Room k A.in1 :=
  ⟨r.hd, by have := r.dp; show A.depth + 3 * k + 5 < _; omega, by have := r.un; show A.units + 1 + 16 * k + 200 < _; omega⟩
theorem make_depth {A : Around} {C : Addr} {us : List Value} {kw : List (Str × Value)} : (A.under (.builtin "type.__call__" ⟨.ref C :: us, kw⟩)).depth = A.depth + 1 := by
  first | rfl | simp [Around.under, Code.weight, Code.isCreation, Code.isGuard, Code.isCaller, Code.frames, Code.isFrame, guardIds]
theorem make_units {A : Around} {C : Addr} {us : List Value} {kw : List (Str × Value)} : (A.under (.builtin "type.__call__" ⟨.ref C :: us, kw⟩)).units = A.units + 1 := by
  first | rfl | simp [Around.under, Code.cUnits, Code.frames, Code.isFrame]
theorem Room.make {k : Nat} {A : Around} (r : Room (k + 1) A) (C : Addr) (us : List Value) (kw : List (Str × Value)) : Room k (A.under (.builtin "type.__call__" ⟨.ref C :: us, kw⟩)) :=
  ⟨r.hd, by have := r.dp; rw [make_depth]; omega, by have := r.un; rw [make_units]; omega⟩
theorem Room.depth {k : Nat} {A : Around} (r : Room k A) : A.depth < recursionLimit := by have := r.dp; omega
theorem Room.units {k : Nat} {A : Around} (r : Room k A) : A.units + 64 < cLine := by have := r.un; omega
theorem Room.units0 {k : Nat} {A : Around} (r : Room k A) : A.units < cLine := by have := r.un; omega

/-! ### argument lists and displays -/
def tNil : TA := fun _ H Q => Q [] H
def tCons (ta : TE) (tr : TA) : TA := fun σ H Q => ta σ H fun x H1 => tr σ H1 fun xs H2 => Q (x :: xs) H2
section
variable {X : Cx} {e : Expr} {es : List Expr} {te : TE} {t : TA} {pos : Pos}
theorem pa_nil : PA X [] tNil := fun _ _ _ _ H Q I h => Calls.spliced_nil ⟨[], H, I, .nil, h⟩
theorem pa_cons (ha : PE X e te) (hr : PA X es t) (hs : starEach (e :: es) X.env = (false, eval e X.env) :: starEach es X.env := by rfl) : PA X (e :: es) (tCons te t) := by
  intro pos pins s σ H Q I h
  rw [hs]
  show wpAny _ _ (spliced ((false, eval e X.env) :: backTo pos (starEach es X.env))) _ _ s
  refine Calls.spliced_cons (thn (ha pins s σ H _ I h) fun u s1 ⟨x, H1, I1, r1, q1⟩ => ?_)
  exact thn (hr pos pins s1 σ H1 _ I1 q1) fun us s2 ⟨xs, H2, I2, r2, q2⟩ => ⟨x :: xs, H2, I2, .cons r1 r2, q2⟩

/-- a tuple, a list of written items -/
def tTup (t : TA) : TE := fun σ H Q => t σ H fun xs H1 => xs.length ≤ sizeLine ∧ ∀ p, H1 p = none → Q (.ref p) (upd H1 p (.tup xs))
def tLst (t : TA) : TE := fun σ H Q => t σ H fun xs H1 => xs.length ≤ sizeLine ∧ ∀ p, H1 p = none → Q (.ref p) (upd H1 p (.lst xs))
theorem pe_tup {x1} (h : PA X es t) : PE X (.Tuple es x1 pos) (tTup t) := by
  intro pins s σ H Q I hq
  refine wpAny_Tuple_spliced (thn (h pos pins s σ H _ I hq) fun us s1 ⟨xs, H1, I1, r, z, q⟩ => ⟨by rw [← r.length]; exact z, ?_⟩)
  have hf : H1 s1.heap.objs.size = none := I1.hok.fresh (Nat.le_refl _)
  refine ⟨.ref s1.heap.objs.size, upd H1 s1.heap.objs.size (.tup xs), I1.laid (t' := s1.toks) (fun b u e => Heap.get?_push_of_some _ e) (Nat.le_refl _) ?_, rfl, q _ hf⟩
  exact ⟨z, us, r, ⟨_, Heap.get?_push_size _ rfl, rfl, _, rfl⟩⟩
theorem pe_lst (h : PA X es t) : PE X (.List es pos) (tLst t) := by
  intro pins s σ H Q I hq
  refine wpAny_List_spliced (thn (h pos pins s σ H _ I hq) fun us s1 ⟨xs, H1, I1, r, z, q⟩ => ⟨by rw [← r.length]; exact z, ?_⟩)
  have hf : H1 s1.heap.objs.size = none := I1.hok.fresh (Nat.le_refl _)
  refine ⟨.ref s1.heap.objs.size, upd H1 s1.heap.objs.size (.lst xs), I1.laid (t' := s1.toks) (fun b u e => Heap.get?_push_of_some _ e) (Nat.le_refl _) ?_, rfl, q _ hf⟩
  exact ⟨z, us, 0, r, Heap.get?_push_size _ rfl⟩
end

/-! ### what a def promises -/
/-- a def's promise: the bound arguments in the parameters' order, the heap, the wanted end, the wanted exception -/
abbrev Sp := List V → Hp → VK → XK → Prop
/-- how an exception lies behind a call (file 08 gives it): the callers' frames, abstract heap and state ahead of the call, the wish, the exception, the state -/
abbrev CXT := List Env → Hp → Shared → XK → Value → Shared → Prop

/-- the state at a call -/
structure Env0 (P : Program) (w : World) (K : PySem.W.Frag) (mg : Str → Option Value) (base : Heap) (A : Around) (outer : List Env) (s : Shared) (H : Hp) : Prop where
  frames : A.frames = some outer
  mod : Mod K mg base
  bs : ∀ b o, base.get? b = some o → s.heap.get? b = some o ∧ H b = none
  bsz : base.objs.size ≤ s.heap.objs.size
  funs : s.heap.FunFrames base outer
  frf : ∀ b ∈ frs outer, H b = none
  hok : HOk P w H s.heap
  bare : AllBare s.gens
/-- a call's end -/
def CE (outer : List Env) (P : Program) (w : World) (H : Hp) (s : Shared) (Q : VK) (u : Value) (s' : Shared) : Prop :=
  ∃ v H', s'.os = s.os ∧ AllBare s'.gens ∧ Un (frs outer) [] H H' s.heap s'.heap ∧ HOk P w H' s'.heap ∧ RelV v u ∧ Q v H'
def CR (CX : CXT) (outer : List Env) (P : Program) (w : World) (H : Hp) (s : Shared) (Q : VK) (E : XK) (r : Result) (s' : Shared) : Prop :=
  match r with
  | .ok (.ret u) => CE outer P w H s Q u s'
  | .ok _ => False
  | .error e => CX outer H s E e s'
structure FnOk (P : Program) (w : World) (K : PySem.W.Frag) (mg : Str → Option Value) (base : Heap) (CX : CXT) (k : Nat) (f : Addr) (fd : FuncData) (ps : List Str) (sp : Sp) : Prop where
  len : ∀ vs H Q E, sp vs H Q E → vs.length = ps.length
  run : ∀ (A : Around) (outer : List Env) (s : Shared) (H : Hp) (args : Args) (us : List Value) (vs : List V) (Q : VK) (E : XK), Room k A → Env0 P w K mg base A outer s H → BindsTo s fd args (ps.zip us) → Vals vs us → sp vs H Q E →
    codeAny (model P w) A (.call (.ref f) args) (CR CX outer P w H s Q E) s
theorem FnOk.mono {P : Program} {w : World} {K : PySem.W.Frag} {mg : Str → Option Value} {base : Heap} {CX : CXT} {j k : Nat} {f : Addr} {fd : FuncData} {ps : List Str} {sp : Sp} (F : FnOk P w K mg base CX j f fd ps sp) (h : j ≤ k) :
    FnOk P w K mg base CX k f fd ps sp := ⟨F.len, fun A outer s H args us vs Q E hr => F.run A outer s H args us vs Q E (hr.mono h)⟩
/-- a weaker promise -/
theorem FnOk.imp {P : Program} {w : World} {K : PySem.W.Frag} {mg : Str → Option Value} {base : Heap} {CX : CXT} {k : Nat} {f : Addr} {fd : FuncData} {ps : List Str} {sp sp' : Sp} (F : FnOk P w K mg base CX k f fd ps sp)
    (h : ∀ vs H Q E, sp' vs H Q E → sp vs H Q E) : FnOk P w K mg base CX k f fd ps sp' :=
  ⟨fun vs H Q E q => F.len vs H Q E (h _ _ _ _ q), fun A outer s H args us vs Q E hr he hb hv hs => F.run A outer s H args us vs Q E hr he hb hv (h _ _ _ _ hs)⟩

theorem Env0.make {P : Program} {w : World} {K : PySem.W.Frag} {mg : Str → Option Value} {base : Heap} {A : Around} {outer : List Env} {s : Shared} {H : Hp} (e : Env0 P w K mg base A outer s H) (C : Addr) (us : List Value) (kw : List (Str × Value)) :
    Env0 P w K mg base (A.under (.builtin "type.__call__" ⟨.ref C :: us, kw⟩)) outer s H := ⟨by first | exact e.frames | (simpa [Around.under, Code.envs, Code.isFrame, pushEnvs] using e.frames), e.mod, e.bs, e.bsz, e.funs, e.frf, e.hok, e.bare⟩
theorem Env0.in1 {P : Program} {w : World} {K : PySem.W.Frag} {mg : Str → Option Value} {base : Heap} {A : Around} {outer : List Env} {s : Shared} {H : Hp} (e : Env0 P w K mg base A outer s H) :
    Env0 P w K mg base A.in1 outer s H := ⟨e.frames, e.mod, e.bs, e.bsz, e.funs, e.frf, e.hok, e.bare⟩

section
variable {X : Cx} {pins : List (Addr × Obj)} {σ : St} {H : Hp} {s s' : Shared}
/-- from a body: what a callee wants -/
theorem Inv.env0 (I : Inv X pins σ H s) : Env0 X.prog X.w X.K X.mg X.base X.A X.stack s H :=
  ⟨I.ok.frames, I.ok.mod, I.bs, Nat.le_trans I.ok.bsz I.sz, I.stack, I.stkFree, I.hok, I.bare⟩
/-- behind a call -/
theorem Inv.after {Q : VK} {u : Value} (I : Inv X pins σ H s) (h : CE X.stack X.prog X.w H s Q u s') : EP X pins σ Q u s' := by
  obtain ⟨v, H', os, bare, un, hok, r, q⟩ := h
  obtain ⟨hh, g, d, t, os'⟩ := s'
  obtain rfl : os' = s.os := os
  exact ⟨v, H', I.call (h' := hh) (g' := g) (d' := d) (t' := t) (ch := []) un hok bare (fun b z => absurd z (by simp)), r, q⟩
end

/-! ### calls -/
/-- f(..): the written arguments, then the defaults dvs; E: what is wanted of an exception -/
def tCall (sp : Sp) (dvs : List V) (E : XK) (t : TA) : TE := fun σ H Q => t σ H fun vs H1 => sp (vs ++ dvs) H1 Q E
/-- o.m(..) of an instance of the class at C -/
def tMeth (C : Addr) (m : Str) (sp : Sp) (dvs : List V) (E : XK) (ta : TE) (t : TA) : TE := fun σ H Q => ta σ H fun x H1 => ∃ a dx fs, x = .ref a ∧ H1 a = some (.ins C dx fs) ∧ fs.lookup m = none ∧
  t σ H1 fun vs H2 => sp (x :: (vs ++ dvs)) H2 Q E
/-- C(..): a new instance and its dict, then __init__ -/
def tMake (C : Addr) (sp : Sp) (dvs : List V) (E : XK) (t : TA) : TE := fun σ H Q => t σ H fun vs H1 => ∀ x dx, H1 x = none → H1 dx = none → dx ≠ x →
  sp (.ref x :: (vs ++ dvs)) (upd (upd H1 dx (.own x)) x (.ins C dx [])) (fun v H2 => v = .non ∧ Q (.ref x) H2) E

/-- how the parameters are bound: us the positional arguments, kw the keywords' values by name, ds the defaults that fill up -/
def Binds (K : PySem.W.Frag) (fd : FuncData) (ps : List Str) (ds : List Value) : Prop :=
  ∀ (s : Shared) (us : List Value), K.In s.heap → (us ++ ds).length = ps.length → BindsTo s fd ⟨us, []⟩ (ps.zip (us ++ ds))
/-- every parameter is given -/
theorem Binds.all {K : PySem.W.Frag} {fd : FuncData} {ps : List Str} (h : ∀ us : List Value, us.length = ps.length → bindArgs fd ⟨us, []⟩ = pure (ps.zip us)) : Binds K fd ps [] := fun s us _ hl => by
  rw [List.append_nil] at hl ⊢
  exact .of_eq (h us hl)

/-- an exception of a callee reaches what this body wants of exceptions -/
def Passes (CX : CXT) (X : Cx) (E : XK) : Prop := ∀ (pins : List (Addr × Obj)) (σ : St) (H : Hp) (s : Shared) (e : Value) (s' : Shared), Inv X pins σ H s → CX X.stack H s E e s' → X.xe e s'

section
variable {X : Cx} {CX : CXT} {k : Nat} {f C : Addr} {fd : FuncData} {ps : List Str} {sp : Sp} {dvs : List V} {ds : List Value} {E : XK} {x m : Str} {p pos apos : Pos} {e o : Expr} {es : List Expr} {ta : TE} {t : TA}

/-- the callee runs -/
theorem run_fn {pins : List (Addr × Obj)} {σ : St} {H : Hp} {s : Shared} {Q : VK} {us : List Value} {vs : List V} (F : FnOk X.prog X.w X.K X.mg X.base CX k f fd ps sp) (hr : Room k X.A) (hb : Binds X.K fd ps ds) (hd : Vals dvs ds) (hx : Passes CX X E)
    (I : Inv X pins σ H s) (r : Vals vs us) (h : sp (vs ++ dvs) H Q E) : wpAny (model X.prog X.w) X.A (call (.ref f) us) (EP X pins σ Q) X.xe s := by
  have r2 : Vals (vs ++ dvs) (us ++ ds) := r.append hd
  have hl : (us ++ ds).length = ps.length := by rw [← r2.length]; exact F.len _ _ _ _ h
  refine wpAny_call (codeAny_mono (F.run X.A X.stack s H ⟨us, []⟩ (us ++ ds) (vs ++ dvs) Q E hr I.env0 (hb s us I.kIn hl) r2 h) fun r s' hq => ?_)
  cases r with
  | error e => exact hx pins σ H s e s' I hq
  | ok fl =>
    cases fl with
    | ret u => exact I.after hq
    | next => exact False.elim hq
    | brk => exact False.elim hq
    | cont => exact False.elim hq

theorem pe_call (F : FnOk X.prog X.w X.K X.mg X.base CX k f fd ps sp) (hr : Room k X.A) (hg : Gl X x) (hm : X.mg x = some (.ref f)) (hk : PySem.W.keepIn X.K (.ref f) = true) (hb : Binds X.K fd ps ds) (hd : Vals dvs ds) (hx : Passes CX X E)
    (ha : PA X (e :: es) t) (hdb : (x == ("__debug__" : Str)) = false := by decide) (he : starEach (e :: es) X.env = (false, eval e X.env) :: starEach es X.env := by rfl) (hpl : (backTo pos (starEach es X.env)).any (·.1) = false := by rfl) :
    PE X (.Call (.Name x p) (e :: es) [] pos) (tCall sp dvs E t) := by
  intro pins s σ H Q I h
  refine wpAny_Call_Name_kw (ld_glob I hg hm ?_ hdb)
  refine PySem.W.callWith_K (h₀ := X.base) I.ok.mod.kin hk (thn (ha pos pins s σ H _ I h) fun us s1 ⟨vs, H1, I1, r, q⟩ => ⟨I1.kIn, ?_⟩) he hpl
  exact run_fn F hr hb hd hx I1 r q

/-- what a class must have to be made -/
structure Mk (K : PySem.W.Frag) (C f : Addr) : Prop where
  makes : PySem.W.makesIn K C = true
  init : PySem.W.findIn K (.ref C) "__init__" = some (some (.ref f))
  fn : PySem.W.isFn K (.ref f) = true
  kp : PySem.W.keepIn K (.ref C) = true

theorem run_make {pins : List (Addr × Obj)} {σ : St} {H : Hp} {s : Shared} {Q : VK} {us : List Value} {vs : List V} (M : Mk X.K C f) (F : FnOk X.prog X.w X.K X.mg X.base CX k f fd ps sp) (hr : Room (k + 1) X.A) (hb : Binds X.K fd ps ds) (hd : Vals dvs ds)
    (hx : Passes CX X E) (I : Inv X pins σ H s) (r : Vals vs us)
    (h : ∀ x dx, H x = none → H dx = none → dx ≠ x → sp (.ref x :: (vs ++ dvs)) (upd (upd H dx (.own x)) x (.ins C dx [])) (fun v H2 => v = .non ∧ Q (.ref x) H2) E) :
    wpAny (model X.prog X.w) X.A (call (.ref C) us) (EP X pins σ Q) X.xe s := by
  have hq := h (s.heap.objs.size + 1) s.heap.objs.size (I.hok.fresh (Nat.le_succ _)) (I.hok.fresh (Nat.le_refl _)) (Nat.ne_of_lt (Nat.lt_succ_self _))
  have I2 := Inv.made (C := C) I
  have r2 : Vals (V.ref (s.heap.objs.size + 1) :: (vs ++ dvs)) (Value.ref (s.heap.objs.size + 1) :: (us ++ ds)) := .cons rfl (r.append hd)
  have hl : (Value.ref (s.heap.objs.size + 1) :: us ++ ds).length = ps.length := by
    have e := r2.length
    rw [F.len _ _ _ _ hq] at e
    exact e.symm
  refine wpAny_call (make_map (f := f) I.kIn M.makes M.init (beq_iff_eq.mp M.fn) (codeAny_mono (F.run _ X.stack _ _ ⟨Value.ref (s.heap.objs.size + 1) :: us, []⟩ (Value.ref (s.heap.objs.size + 1) :: (us ++ ds)) _ _ E (hr.make C us [])
    (I2.env0.make C us []) (hb _ (Value.ref (s.heap.objs.size + 1) :: us) I2.kIn hl) r2 hq) fun r s' hq' => ?_))
  cases r with
  | error e => exact hx pins σ _ _ e s' I2 hq'
  | ok fl =>
    cases fl with
    | ret u =>
      obtain ⟨v, H', I3, rv, ev, q3⟩ := I2.after hq'
      subst ev
      exact ⟨rv, ⟨V.ref (s.heap.objs.size + 1), H', I3, rfl, q3⟩⟩
    | next => exact False.elim hq'
    | brk => exact False.elim hq'
    | cont => exact False.elim hq'
theorem pe_make (M : Mk X.K C f) (F : FnOk X.prog X.w X.K X.mg X.base CX k f fd ps sp) (hr : Room (k + 1) X.A) (hg : Gl X x) (hm : X.mg x = some (.ref C)) (hb : Binds X.K fd ps ds) (hd : Vals dvs ds) (hx : Passes CX X E)
    (ha : PA X (e :: es) t) (hdb : (x == ("__debug__" : Str)) = false := by decide) (he : starEach (e :: es) X.env = (false, eval e X.env) :: starEach es X.env := by rfl) (hpl : (backTo pos (starEach es X.env)).any (·.1) = false := by rfl) :
    PE X (.Call (.Name x p) (e :: es) [] pos) (tMake C sp dvs E t) := by
  intro pins s σ H Q I h
  refine wpAny_Call_Name_kw (ld_glob I hg hm ?_ hdb)
  refine PySem.W.callWith_K (h₀ := X.base) I.ok.mod.kin M.kp (thn (ha pos pins s σ H _ I h) fun us s1 ⟨vs, H1, I1, r, q⟩ => ⟨I1.kIn, ?_⟩) he hpl
  exact run_make M F hr hb hd hx I1 r q
end

/-! ### keywords -/
/-- the values of the keywords, from the left -/
def PK (X : Cx) (kws : List Keyword) (t : TA) : Prop :=
  ∀ (pos : Pos) (pins : List (Addr × Obj)) (s : Shared) (σ : St) (H : Hp) (Q : List V → Hp → Prop), Inv X pins σ H s → t σ H Q → wpAny (model X.prog X.w) X.A (evalAll ((backToKw pos (keywordEach kws X.env)).map (·.2))) (AP X pins σ Q) X.xe s
section
variable {X : Cx} {CX : CXT} {k : Nat} {f C : Addr} {fd : FuncData} {ps ks : List Str} {sp : Sp} {E : XK} {x m : Str} {p pos apos kpos : Pos} {e o : Expr} {es : List Expr} {kws : List Keyword} {te ta : TE} {t tk : TA} {nm : Option Str}

/-- how a call with keywords binds: g puts the positional values us and the keywords' values ws (names ks) in the parameters' order, defaults among them -/
structure KBinds (K : PySem.W.Frag) (fd : FuncData) (ps ks : List Str) (g : List Value → List Value → List Value) (gV : List V → List V → List V) : Prop where
  to : ∀ (s : Shared) (us ws : List Value), K.In s.heap → (g us ws).length = ps.length → BindsTo s fd ⟨us, ks.zip ws⟩ (ps.zip (g us ws))
  rel : ∀ {vs : List V} {us : List Value} {zs : List V} {ws : List Value}, Vals vs us → Vals zs ws → Vals (gV vs zs) (g us ws)
def tCallK (sp : Sp) (gV : List V → List V → List V) (E : XK) (t tk : TA) : TE := fun σ H Q => t σ H fun vs H1 => tk σ H1 fun zs H2 => sp (gV vs zs) H2 Q E
variable {g : List Value → List Value → List Value} {gV : List V → List V → List V}
end

/-! ### a def's body keeps its promise -/
/-- names: the parameters first -/
structure FnScope (N P : List Str) (sc : Scope) : Prop where
  kind : sc.kind = .function
  co : sc.isCoroutine = false
  gen : sc.isGenerator = false
  nd : N.Nodup
  pre : N.take P.length = P
  par : ∀ x ∈ P, sc.names.lookup x = some .local ∨ sc.names.lookup x = some .cell
  nofree : ∀ y ∈ sc.names, y.2 ≠ .free

theorem bindL_out {kindOf : Str → Option NameKind} {x : Str} : ∀ {binds : List (Str × Value)} {m : Str → Option Value}, (∀ v, (x, v) ∉ binds) → bindL kindOf binds m x = m x
  | [], _, _ => rfl
  | (n, v) :: r, m, h => by
    unfold bindL
    rw [bindL_out fun w hw => h w (List.mem_cons_of_mem _ hw)]
    split
    · have : x ≠ n := by rintro rfl; exact h v List.mem_cons_self
      simp [this]
    · rfl
theorem bindC_out {kindOf : Str → Option NameKind} {x : Str} : ∀ {binds : List (Str × Value)} {m : Str → Option Value}, (∀ v, (x, v) ∉ binds) → bindC kindOf binds m x = m x
  | [], _, _ => rfl
  | (n, v) :: r, m, h => by
    unfold bindC
    rw [bindC_out fun w hw => h w (List.mem_cons_of_mem _ hw)]
    split
    · rfl
    · have : x ≠ n := by rintro rfl; exact h v List.mem_cons_self
      simp [this]
theorem bindL_get {kindOf : Str → Option NameKind} {x : Str} {v : Value} : ∀ {P : List Str} {vs : List Value} {i : Nat} {m : Str → Option Value}, P.Nodup → P[i]? = some x → vs[i]? = some v → kindOf x = some .local →
    bindL kindOf (P.zip vs) m x = some v
  | [], _, _, _, _, h, _, _ => by simp at h
  | _ :: _, [], _, _, _, _, h, _ => by simp at h
  | p :: P, w :: vs, 0, m, nd, h1, h2, hk => by
    simp at h1 h2; subst h1; subst h2
    show bindL kindOf ((p, w) :: P.zip vs) m p = _
    unfold bindL
    rw [bindL_out fun v hv => (List.nodup_cons.mp nd).1 (List.of_mem_zip hv).1, if_pos hk]
    simp
  | p :: P, w :: vs, i + 1, m, nd, h1, h2, hk => by
    show bindL kindOf ((p, w) :: P.zip vs) m x = _
    unfold bindL
    exact bindL_get (i := i) (List.nodup_cons.mp nd).2 (by simpa using h1) (by simpa using h2) hk
theorem bindC_get {kindOf : Str → Option NameKind} {x : Str} {v : Value} : ∀ {P : List Str} {vs : List Value} {i : Nat} {m : Str → Option Value}, P.Nodup → P[i]? = some x → vs[i]? = some v → kindOf x ≠ some .local →
    bindC kindOf (P.zip vs) m x = some v
  | [], _, _, _, _, h, _, _ => by simp at h
  | _ :: _, [], _, _, _, _, h, _ => by simp at h
  | p :: P, w :: vs, 0, m, nd, h1, h2, hk => by
    simp at h1 h2; subst h1; subst h2
    show bindC kindOf ((p, w) :: P.zip vs) m p = _
    unfold bindC
    rw [bindC_out fun v hv => (List.nodup_cons.mp nd).1 (List.of_mem_zip hv).1, if_neg hk]
    simp
  | p :: P, w :: vs, i + 1, m, nd, h1, h2, hk => by
    show bindC kindOf ((p, w) :: P.zip vs) m x = _
    unfold bindC
    exact bindC_get (i := i) (List.nodup_cons.mp nd).2 (by simpa using h1) (by simpa using h2) hk

/-- the names' values at the entry -/
def start (N : List Str) (vs : List V) : St := vs.map some ++ List.replicate (N.length - vs.length) none

/-- the context of a def's body, at its entry; an exception leaves the frame, then lies as CX says -/
def cxOf (CX : CXT) (P : Program) (w : World) (K : PySem.W.Frag) (mg : Str → Option Value) (base : Heap) (N : List Str) (qual : Str) (scope : Scope) (f : Addr) (cd : Value) (A : Around) (outer : List Env) (s : Shared) (H : Hp) (E : XK) : Cx where
  prog := P
  w := w
  K := K
  mg := mg
  base := base
  A := A.deeper (envOfC qual scope s.heap.objs.size f cd)
  N := N
  s₀ := s
  H₀ := H
  env := envOfC qual scope s.heap.objs.size f cd
  outer := outer
  stack := envOfC qual scope s.heap.objs.size f cd :: outer
  ex := []
  calm := true
  fn := fun _ => true
  pn := []
  xe := fun e s' => wpAny (model P w) (A.deeper (envOfC qual scope s.heap.objs.size f cd)) («leaving» (envOfC qual scope s.heap.objs.size f cd) e) (fun _ s'' => CX outer H s E e s'') (fun e' s'' => CX outer H s E e' s'') s'

theorem cell_has {sc : Scope} {n : Nat} {x : Str} (h : sc.names.lookup x = some .cell) : ∃ c, (cellsFrom n sc.names []).lookup x = some c := by
  have q := PySem.W.cellsFrom_some sc.names n [] (.inl h)
  exact Option.isSome_iff_exists.mp q

theorem inv_start {CX : CXT} {P : Program} {w : World} {K : PySem.W.Frag} {mg : Str → Option Value} {base : Heap} {N ps : List Str} {qual : Str} {scope : Scope} {f : Addr} {cd : Value} {A : Around} {outer : List Env} {s s1 : Shared} {H : Hp} {E : XK} {us : List Value} {vs : List V}
    (S : FnScope N ps scope) (hd : A.handled = none) (e0 : Env0 P w K mg base A outer s H) (hl : vs.length = ps.length) (r : Vals vs us)
    (x : InCallC s s.heap.objs.size (bindL (envOfC qual scope s.heap.objs.size f cd).kindOf (ps.zip us) fun _ => none) (cellsFrom (s.heap.objs.size + 1) scope.names []) (bindC (envOfC qual scope s.heap.objs.size f cd).kindOf (ps.zip us) fun _ => none) s1) :
    Inv (cxOf CX P w K mg base N qual scope f cd A outer s H E) [] (start N vs) H s1 := by
  have hpl : ps.length ≤ N.length := by have := congrArg List.length S.pre; rw [List.length_take] at this; omega
  obtain ⟨h1, tk, rfl, hk⟩ := x.done
  have noA : ∀ b : Addr, b ∉ (cxOf CX P w K mg base N qual scope f cd A outer s H E).ex := fun b z => absurd (show b ∈ ([] : List Addr) from z) (by simp)
  refine ⟨⟨e0.mod, S.kind, rfl, rfl, Nat.le_refl _, fun y z c h1 h2 => ?_, fun y hy => ?_, fun y c _ h => ?_, fun _ => hd, Around.frames_deeper e0.frames, .inr ⟨rfl, rfl⟩, fun b z => absurd z (noA b), e0.bs, e0.bsz, fun b _ _ => noA b, fun b z => absurd z (noA b), e0.funs, e0.frf⟩,
    rfl, e0.bare, Un.kept hk, ⟨_, x.toInCall.ns, fun i y v h1 h2 h3 => ?_⟩, fun y c h => ⟨_, x.cell y c h⟩, e0.hok.fresh (Nat.le_refl _), fun y c h => ?_, fun p hp => absurd (show p ∈ ([] : List (Addr × Obj)) from hp) (by simp), e0.hok.kept hk, ?_⟩
  · exact name_of_addr x.apart (PySem.mem_of_lookup h1) (PySem.mem_of_lookup h2)
  · have hy : scope.names.lookup y = some .cell ∨ scope.names.lookup y = some .free := hy
    rcases hy with hy | hy
    · exact cell_has hy
    · exact absurd rfl (S.nofree _ (PySem.mem_of_lookup hy))
  · exact Nat.le_of_lt (x.above y c (PySem.mem_of_lookup h))
  · have hi : i < vs.length := by
      unfold start at h2
      by_cases hi : i < vs.length
      · exact hi
      · rw [List.getElem?_append_right (by simpa using hi)] at h2
        rw [List.getElem?_replicate] at h2
        split at h2 <;> cases h2
    have ha : vs[i]? = some v := by
      unfold start at h2
      rw [List.getElem?_append_left (by simpa using hi), List.getElem?_map] at h2
      cases e : vs[i]? with
      | none => rw [e] at h2; cases h2
      | some a => rw [e] at h2; cases h2; rfl
    obtain ⟨u, hu, rv⟩ := r.get ha
    have hp : ps[i]? = some y := by
      rw [← S.pre, List.getElem?_take_of_lt (by omega)]; exact h1
    have ndP : ps.Nodup := by rw [← S.pre]; exact S.nd.sublist (List.take_sublist _ _)
    refine ⟨u, rv, ?_⟩
    rcases S.par y (List.mem_of_getElem? hp) with k | k
    · exact .inl ⟨k, bindL_get ndP hp hu k⟩
    · obtain ⟨c, e⟩ := cell_has (n := s.heap.objs.size + 1) k
      refine .inr ⟨.inl k, c, e, ?_⟩
      have q := x.cell y c e
      rw [bindC_get ndP hp hu (by show scope.names.lookup y ≠ _; rw [k]; decide)] at q
      exact q
  · exact e0.hok.fresh (Nat.le_of_lt (x.above y c (PySem.mem_of_lookup h)))
  · unfold start
    show _ = N.length
    rw [List.length_append, List.length_map, List.length_replicate]
    omega

/-- THE RULE: a def (or a method) of the text, by its body. The body's reading t is chosen for each entry; it is run at the parameters' values -/
theorem fn_of {CX : CXT} {P : Program} {w : World} {K : PySem.W.Frag} {mg : Str → Option Value} {base : Heap} {k : Nat} {f : Addr} {name qual : Str} {params : Arguments} {body : List Stmt} {scope : Scope} {dV kV doc pm cdv ct oc : Value} {an od : Option Addr}
    {osl : Array (Option Value)} {N ps : List Str} {sp : Sp} (lk : K.lookup f = some ⟨oc, od, .func (PySem.W.fnOf name qual params body scope dV kV doc pm an cdv ct), osl⟩) (hcd : PySem.W.codeIn K cdv qual = true) (S : FnScope N ps scope)
    (len : ∀ vs H Q E, sp vs H Q E → vs.length = ps.length)
    (hbody : ∀ (A : Around) (outer : List Env) (s : Shared) (H : Hp) (vs : List V) (Q : VK) (E : XK), Room k (A.deeper (envOfC qual scope s.heap.objs.size f cdv)) → sp vs H Q E →
      ∃ t, PSs (cxOf CX P w K mg base N qual scope f cdv A outer s H E) body t ∧ t { nx := fun _ H' => Q .non H', rt := Q } (start N vs) H) :
    FnOk P w K mg base CX (k + 1) f (PySem.W.fnOf name qual params body scope dV kV doc pm an cdv ct) ps sp := by
  refine ⟨len, fun A outer s H args us vs Q E hr e0 hb r hsp => ?_⟩
  have hl := len _ _ _ _ hsp
  have KX : K.In s.heap := e0.mod.kin.keeps fun b o e => (e0.bs b o e).1
  have lim : s.heap.NoLimit := e0.mod.nolimit.keeps fun b o e => (e0.bs b o e).1
  have hkind : ∀ y ∈ ps.zip us, scope.names.lookup y.1 = some .local ∨ (scope.names.lookup y.1 = some .cell ∧ ((cellsFrom (s.heap.objs.size + 1) scope.names []).lookup y.1).isSome = true) := fun ⟨n, v⟩ hy => by
    rcases S.par n (List.of_mem_zip hy).1 with q | q
    · exact .inl q
    · exact .inr ⟨q, PySem.W.cellsFrom_some _ _ _ (.inl q)⟩
  refine codeAny_call_function hr.depth (KX _ _ lk) rfl S.co S.gen rfl (PySem.W.codeRec_of KX hcd) (hb _ _ _ _ ?_)
  refine wpAny_newFunctionEnv_cells S.kind hkind fun env he s1 x => ?_
  subst he
  refine ⟨lim.keeps x.toInCall.keep, codeAny_func ?_⟩
  obtain ⟨t, ht, hq⟩ := hbody A outer s H vs Q E (hr.deeper _) hsp
  have I : Inv (cxOf CX P w K mg base N qual scope f cdv A outer s H E) [] (start N vs) H s1 := inv_start S hr.hd e0 hl r x
  refine wpAny_mono (ht [] s1 (start N vs) H _ I hq) (fun fl s' hs => ?_) fun e s' hs => hs
  have fin : ∀ {σ' : St} {H' : Hp} {v : V} {u : Value}, Inv (cxOf CX P w K mg base N qual scope f cdv A outer s H E) [] σ' H' s' → RelV v u → Q v H' → CE outer P w H s Q u s' :=
    fun {σ' H' v u} J rv q => ⟨v, H', J.os, J.bare, J.base, J.hok, rv, q⟩
  cases fl with
  | ret u =>
    obtain ⟨v, σ', H', J, rv, q⟩ := hs
    exact fin J rv q
  | next =>
    obtain ⟨σ', H', J, q⟩ := hs
    exact fin (v := V.non) (u := Value.none) J rfl q
  | brk =>
    obtain ⟨_, _, _, q⟩ := hs
    exact False.elim q
  | cont =>
    obtain ⟨_, _, _, q⟩ := hs
    exact False.elim q
end L2

namespace L2
open PySem PySem.Spec PyProof.Rows
section
variable {X : Cx} {x : Str} {p pos : Pos} {e : Expr} {es : List Expr} {t : TA} {id T : String} {r : List V → Hp → VK → Prop}

def tCB (r : List V → Hp → VK → Prop) (t : TA) : TE := fun σ H Q => t σ H fun vs H1 => r vs H1 Q
/-- f(e, ..), f a built-in function -/
theorem pe_callB (hc : CallR X (.builtin id) r) (hg : Gl X x) (hm : X.mg x = none) (hv : bootBuiltins x = some (.builtin id)) (ha : PA X (e :: es) t) (hn : x ≠ "__name__" := by decide) (hdb : (x == ("__debug__" : Str)) = false := by decide)
    (he : starEach (e :: es) X.env = (false, eval e X.env) :: starEach es X.env := by rfl) (hpl : (backTo pos (starEach es X.env)).any (·.1) = false := by rfl) : PE X (.Call (.Name x p) (e :: es) [] pos) (tCB r t) := by
  intro pins s σ H Q I h
  refine wpAny_Call_Name_kw (ld_blt I hg hm hv ?_ hn hdb)
  exact PyProof.Rows.callWith_builtin1 (thn (ha pos pins s σ H _ I h) fun us s1 ⟨vs, H1, I1, r1, q1⟩ => hc pins s1 σ H1 vs us Q I1 r1 q1) he hpl
/-- T(e, ..), T a built-in type -/
theorem pe_callTy (hc : CallR X (.type T) r) (hg : Gl X x) (hm : X.mg x = none) (hv : bootBuiltins x = some (.type T)) (ha : PA X (e :: es) t) (hn : x ≠ "__name__" := by decide) (hdb : (x == ("__debug__" : Str)) = false := by decide)
    (he : starEach (e :: es) X.env = (false, eval e X.env) :: starEach es X.env := by rfl) (hpl : (backTo pos (starEach es X.env)).any (·.1) = false := by rfl) : PE X (.Call (.Name x p) (e :: es) [] pos) (tCB r t) := by
  intro pins s σ H Q I h
  refine wpAny_Call_Name_kw (ld_blt I hg hm hv ?_ hn hdb)
  exact PyProof.Rows.callWith_type1 (thn (ha pos pins s σ H _ I h) fun us s1 ⟨vs, H1, I1, r1, q1⟩ => hc pins s1 σ H1 vs us Q I1 r1 q1) he hpl
end
end L2

namespace HT
open PySem PyProof.Rows

/-- t < u of tuples of ints -/
def lexLt : List Int → List Int → Bool
  | [], [] => false
  | [], _ :: _ => true
  | _ :: _, [] => false
  | x :: xs, y :: ys => if x = y then lexLt xs ys else decide (x < y)

section
open PySem.SeqAt
open PySem.AutoSeq1 (wpAny_loadPart')
open PySem.MeetsSeq PySem.MeetsSeq2 PySem.MeetsSeq3

end

section
variable {prog : Program} {w : World} {A : Around} {E : Value → Shared → Prop} {s : Shared}

/-! ### t[a:b], not the whole -/
/-- a slice's bound as a place among n (d where it is left out) -/
def sIx (n d : Nat) : Option Int → Nat
  | none => d
  | some v => if v < 0 then (v + (n : Int)).toNat else min v.toNat n

end
end HT

namespace L2
open PySem PySem.Spec PyProof.Rows

/-! ### the parts of a slice -/
abbrev TO := St → Hp → (Option Int → Hp → Prop) → Prop
/-- a slice's part (left out, or an int) -/
def PO (X : Cx) (e : Option Expr) (t : TO) : Prop :=
  ∀ (pins : List (Addr × Obj)) (s : Shared) (σ : St) (H : Hp) (Q : Option Int → Hp → Prop), Inv X pins σ H s → t σ H Q →
    wpAny (model X.prog X.w) X.A (evalPart e X.env) (fun u s' => ∃ o H', Inv X pins σ H' s' ∧ IsPart u o ∧ Q o H') X.xe s
def tNoPart : TO := fun _ H Q => Q none H
def tPart (t : TE) : TO := fun σ H Q => t σ H fun x H1 => ∃ i, x = .int i ∧ Q (some i) H1

section
variable {X : Cx} {e : Expr} {te : TE} {lo hi : Option Expr} {tl th : TO} {pos p2 : Pos}

theorem po_none : PO X none tNoPart := by
  intro pins s σ H Q I h
  rw [evalPart_none]
  exact wpAny_pure ⟨none, H, I, .none, h⟩
theorem po_some (h : PE X e te) : PO X (some e) (tPart te) := by
  intro pins s σ H Q I hw
  rw [evalPart_some]
  refine thn (h pins s σ H _ I hw) fun u s1 ⟨x, H1, I1, r1, q1⟩ => ?_
  obtain ⟨i, rfl, q⟩ := q1
  obtain ⟨t, rfl⟩ := r1
  exact ⟨some i, H1, I1, .int i t, q⟩

/-- what a slice of a value is, by values: the slice object stands at sl -/
def SlR (X : Cx) (r : V → Option Int → Option Int → Hp → VK → Prop) : Prop :=
  ∀ (pins : List (Addr × Obj)) (s : Shared) (σ : St) (H : Hp) (x : V) (v vl vu : Value) (lo hi : Option Int) (sl : Addr) (Q : VK), Inv X pins σ H s → RelV x v → s.heap.IsSliceOf sl vl vu .none → IsPart vl lo → IsPart vu hi → r x lo hi H Q →
    ∃ T id, typeLookup (.type T) "__getitem__" = pure (some (.builtin id)) ∧ s.TypeIs v T ∧ wpAny (model X.prog X.w) X.A (getItem v (.ref sl)) (EP X pins σ Q) X.xe s
theorem SlR.or {r r' : V → Option Int → Option Int → Hp → VK → Prop} (h : SlR X r) (h' : SlR X r') : SlR X (fun x lo hi H Q => r x lo hi H Q ∨ r' x lo hi H Q) := by
  intro pins s σ H x v vl vu lo hi sl Q I rx hs pl pu q
  rcases q with q | q
  · exact h pins s σ H x v vl vu lo hi sl Q I rx hs pl pu q
  · exact h' pins s σ H x v vl vu lo hi sl Q I rx hs pl pu q
def tSl (r : V → Option Int → Option Int → Hp → VK → Prop) (te : TE) (tl th : TO) : TE := fun σ H Q => te σ H fun x H1 => tl σ H1 fun l H2 => th σ H2 fun u H3 => r x l u H3 Q
/-- a[lo:hi], any a -/
theorem pe_slice {r : V → Option Int → Option Int → Hp → VK → Prop} (hr : SlR X r) (he : PE X e te) (hl : PO X lo tl) (hu : PO X hi th) : PE X (.Subscript e (.Slice lo hi none p2) pos) (tSl r te tl th) := by
  intro pins s σ H Q I h
  refine Subscript_ (thn (he pins s σ H _ I h) fun v s1 ⟨x, H1, I1, r1, q1⟩ => ?_)
  refine wpAny_Slice (thn (hl pins s1 σ H1 _ I1 q1) fun vl s2 ⟨l, H2, I2, pl, q2⟩ => thn (hu pins s2 σ H2 _ I2 q2) fun vu s3 ⟨u, H3, I3, pu, q3⟩ => ?_)
  rw [evalPart_none]
  refine wpAny_pure ?_
  have I4 : Inv X pins σ H3 { s3 with heap := s3.heap.push { cls := .type "slice", data := .fields #[vl, vu, .none] } } := I3.kept (t' := s3.toks) fun b ob q => Heap.get?_push_of_some _ q
  obtain ⟨T, id, hT, ht, hg⟩ := hr pins { s3 with heap := s3.heap.push { cls := .type "slice", data := .fields #[vl, vu, .none] } } σ H3 x v vl vu l u s3.heap.objs.size Q I4 r1 (Heap.IsSliceOf.new ..) pl pu q3
  show wpAny (model X.prog X.w) X.A (subscriptTail e (.Slice lo hi none p2) v (.ref s3.heap.objs.size)) (EP X pins σ Q) X.xe { s3 with heap := s3.heap.push { cls := .type "slice", data := .fields #[vl, vu, .none] } }
  exact tail_any (ops := [.ref s3.heap.objs.size, v]) ht hT hg (by with_unfolding_all rfl)

/-- the items of xs[lo:hi] -/
def cutV (xs : List V) (lo hi : Option Int) : List V := (xs.drop (HT.sIx xs.length 0 lo)).take (HT.sIx xs.length xs.length hi - HT.sIx xs.length 0 lo)
theorem cutV_length (xs : List V) (lo hi : Option Int) : (cutV xs lo hi).length ≤ xs.length := by
  unfold cutV
  rw [List.length_take, List.length_drop]
  omega
/-- t[lo:hi], not the whole of it (the whole would be t itself) -/
def rSlT (K : PySem.W.Frag) : V → Option Int → Option Int → Hp → VK → Prop := fun x lo hi H Q => ∃ a xs, x = .ref a ∧ SqT K H a xs ∧
  ¬ (HT.sIx xs.length 0 lo = 0 ∧ HT.sIx xs.length xs.length hi = xs.length) ∧ ∀ p, H p = none → Q (.ref p) (upd H p (.tup (cutV xs lo hi)))

/-! ### t < u, t + u -/
def rLtT (K : PySem.W.Frag) : R2 := fun x y H Q => ∃ a b ns ms, x = .ref a ∧ y = .ref b ∧ SqT K H a (ns.map V.int) ∧ SqT K H b (ms.map V.int) ∧ Q (.bl (HT.lexLt ns ms)) H
/-- t + u, t not empty: u empty gives t itself -/
def rCatT (K : PySem.W.Frag) : R2 := fun x y H Q => ∃ a b xs ys, x = .ref a ∧ y = .ref b ∧ SqT K H a xs ∧ SqT K H b ys ∧ xs ≠ [] ∧ xs.length + ys.length ≤ sizeLine ∧
  (ys = [] → Q (.ref a) H) ∧ (ys ≠ [] → ∀ p, H p = none → Q (.ref p) (upd H p (.tup (xs ++ ys))))
end
end L2

namespace L2
open PySem PySem.Spec PyProof.Rows

/-! ### places -/
/-- the place that an index of any sign means -/
def ixN (n : Nat) (i : Int) : Option Nat := if 0 ≤ i then (if i < n then some i.toNat else none) else if -(n : Int) ≤ i then some (i + n).toNat else none
def atI {α : Type} (xs : List α) (i : Int) : Option α := (ixN xs.length i).bind fun j => xs[j]?
theorem ixN_seq {n : Nat} {i : Int} {j : Nat} (h : ixN n i = some j) : seqIndex? i n = some j ∧ j < n ∧ -(n : Int) ≤ i ∧ i < n := by
  unfold ixN at h
  by_cases h0 : 0 ≤ i
  · rw [if_pos h0] at h
    by_cases h1 : i < n
    · rw [if_pos h1] at h
      have e : i.toNat = j := Option.some.inj h
      exact ⟨by rw [seqIndex_of h0 h1, e], by omega, by omega, h1⟩
    · rw [if_neg h1] at h; cases h
  · rw [if_neg h0] at h
    by_cases h1 : -(n : Int) ≤ i
    · rw [if_pos h1] at h
      have e : (i + n).toNat = j := Option.some.inj h
      exact ⟨by rw [seqIndex_neg (by omega) h1, e], by omega, h1, by omega⟩
    · rw [if_neg h1] at h; cases h
theorem atI_get {α : Type} {xs : List α} {i : Int} {v : α} (h : atI xs i = some v) : ∃ j, seqIndex? i xs.length = some j ∧ xs[j]? = some v ∧ j < xs.length ∧ -(xs.length : Int) ≤ i ∧ i < xs.length := by
  unfold atI at h
  cases e : ixN xs.length i with
  | none => rw [e] at h; cases h
  | some j =>
    rw [e] at h
    obtain ⟨h1, h2, h3, h4⟩ := ixN_seq e
    exact ⟨j, h1, h, h2, h3, h4⟩
theorem atI_nat {α : Type} {xs : List α} {j : Nat} {v : α} (h : xs[j]? = some v) : atI xs (j : Int) = some v := by
  have hj : j < xs.length := (List.getElem?_eq_some_iff.mp h).1
  have e : ixN xs.length (j : Int) = some j := by
    unfold ixN
    rw [if_pos (by omega), if_pos (by omega)]; simp
  unfold atI; rw [e]; exact h

/-! ### what may be subscripted -/
/-- what stands as an index of a plain subscript -/
def PlainIx (b : Expr) : Prop := ∀ o i, subscripted b false o i = operate [o, i] (getItem o i)
/-- a subscript by values -/
def IxR (X : Cx) (r : R2) : Prop :=
  ∀ (value slice : Expr) (pins : List (Addr × Obj)) (s : Shared) (σ : St) (H : Hp) (x y : V) (v u : Value) (Q : VK), Inv X pins σ H s → RelV x v → RelV y u → r x y H Q →
    subscripted slice false v u = operate [v, u] (getItem v u) → wpAny (model X.prog X.w) X.A (subscriptTail value slice v u) (EP X pins σ Q) X.xe s
/-- a call of a builtin's method by values: the receiver, the arguments -/
def MtR (X : Cx) (id : String) (r : V → List V → Hp → VK → Prop) : Prop :=
  ∀ (pins : List (Addr × Obj)) (s : Shared) (σ : St) (H : Hp) (x : V) (xs : List V) (v : Value) (us : List Value) (Q : VK), Inv X pins σ H s → RelV x v → Vals xs us → r x xs H Q →
    wpAny (model X.prog X.w) X.A (call (.builtin id) (v :: us)) (EP X pins σ Q) X.xe s
section
variable {X : Cx} {a b : Expr} {ta tb : TE} {pos : Pos}
theorem IxR.or {r r' : R2} (h : IxR X r) (h' : IxR X r') : IxR X (fun x y H Q => r x y H Q ∨ r' x y H Q) := by
  intro value slice pins s σ H x y v u Q I rx ry q hs
  rcases q with q | q
  · exact h value slice pins s σ H x y v u Q I rx ry q hs
  · exact h' value slice pins s σ H x y v u Q I rx ry q hs
theorem MtR.or {id : String} {r r' : V → List V → Hp → VK → Prop} (h : MtR X id r) (h' : MtR X id r') : MtR X id (fun x xs H Q => r x xs H Q ∨ r' x xs H Q) := by
  intro pins s σ H x xs v us Q I rx rs q
  rcases q with q | q
  · exact h pins s σ H x xs v us Q I rx rs q
  · exact h' pins s σ H x xs v us Q I rx rs q
/-- a[b] -/
theorem pe_ix {r : R2} (hr : IxR X r) (ha : PE X a ta) (hb : PE X b tb) (hs : PlainIx b) : PE X (.Subscript a b pos) (tOp r ta tb) := by
  intro pins s σ H Q I h
  exact Subscript_ (binT ha hb I h fun v u s2 x y H2 I2 rx ry q => hr a b pins s2 σ H2 x y v u Q I2 rx ry q (hs _ _))

def rIxL (K : PySem.W.Frag) : R2 := fun x y H Q => ∃ p xs i v, x = .ref p ∧ y = .int i ∧ SqL K H p xs ∧ atI xs i = some v ∧ Q v H
def rIxT (K : PySem.W.Frag) : R2 := fun x y H Q => ∃ p xs i v, x = .ref p ∧ y = .int i ∧ SqT K H p xs ∧ atI xs i = some v ∧ Q v H
def rIxS : R2 := fun x y H Q => ∃ z i c, x = .str z ∧ y = .int i ∧ z.length ≤ sizeLine ∧ atI z.cps.toList i = some c ∧ Q (.str ⟨#[c]⟩) H
theorem ix_list : IxR X (rIxL X.K) := by
  intro value slice pins s σ H x y v u Q I rx ry h hs
  obtain ⟨p, xs, i, z, rfl, rfl, hq, he, q⟩ := h
  cases rx
  obtain ⟨t, rfl⟩ := ry
  obtain ⟨its, r, pl, hz⟩ := I.list hq
  obtain ⟨j, h1, h2, h3, h4, h5⟩ := atI_get he
  obtain ⟨w, ew, rw'⟩ := r.get h2
  have hl := r.length
  have hn := line63
  have fin : EP X pins σ Q w s := ⟨z, H, I, rw', q⟩
  by_cases h0 : 0 ≤ i
  · have hj : i.toNat = j := by
      rw [seqIndex_of h0 h5] at h1
      exact Option.some.inj h1
    exact item_listR pl.isList h0 (by omega) (by rw [hj]; simpa using ew) fin hs
  · have hj : (i + (its.toArray.size : Int)).toNat = j := by
      rw [seqIndex_neg (by omega) h4] at h1
      rw [List.size_toArray, ← hl]
      exact Option.some.inj h1
    exact subscriptTail_builtinR (x := w) pl.isList.typeIs slot_list_getitem.lookup
      (wpAny_getItem_list_neg (Q := fun r s' => r = w ∧ EP X pins σ Q r s') pl.isList (by omega) (by rw [List.size_toArray] <;> omega) (by omega) (by rw [hj]; simpa using ew) ⟨rfl, fin⟩) hs
theorem ix_tup : IxR X (rIxT X.K) := by
  intro value slice pins s σ H x y v u Q I rx ry h hs
  obtain ⟨p, xs, i, z, rfl, rfl, hq, he, q⟩ := h
  cases rx
  obtain ⟨t, rfl⟩ := ry
  obtain ⟨its, r, pl, hz⟩ := I.tuple hq
  obtain ⟨j, h1, h2, h3, h4, h5⟩ := atI_get he
  obtain ⟨w, ew, rw'⟩ := r.get h2
  have hl := r.length
  have hn := line63
  have fin : EP X pins σ Q w s := ⟨z, H, I, rw', q⟩
  exact subscriptTail_builtinR (x := w) pl.typeIs slot_tuple_getitem.lookup
    (getItem_tuple (j := j) (Q := fun r s' => r = w ∧ EP X pins σ Q r s') pl (by omega) (by omega) (by rw [List.size_toArray, ← hl]; exact h1) (by simpa using ew) ⟨rfl, fin⟩) hs
theorem ix_str : IxR X rIxS := by
  intro value slice pins s σ H x y v u Q I rx ry h hs
  obtain ⟨z, i, c, rfl, rfl, hz, he, q⟩ := h
  obtain ⟨t, rfl⟩ := rx
  obtain ⟨t', rfl⟩ := ry
  obtain ⟨j, h1, h2, h3, h4, h5⟩ := atI_get he
  have hl : z.cps.toList.length = z.length := by simp [Str.length]
  rw [hl] at h1 h4 h5
  have hn := line63
  exact tail_any (typeIs_str s z t) slot_str_getitem.lookup (getItem_str (c := c) (by
    have e1 : decide (i < -(2 ^ 63 : Int)) = false := decide_eq_false (by omega)
    have e2 : decide (i ≥ 2 ^ 63) = false := decide_eq_false (by omega)
    rw [e1, e2, Bool.or_false]) (by rw [h1]; simpa using h2) ⟨.str ⟨#[c]⟩, H, I.tok _, ⟨_, rfl⟩, q⟩) hs
/-- list, tuple or str -/
def rIx (K : PySem.W.Frag) : R2 := fun x y H Q => rIxL K x y H Q ∨ rIxT K x y H Q ∨ rIxS x y H Q

/-! ### xs[i] = v, any sign -/
/-- the list's object behind a store -/
theorem mapSeq_set (its : List Value) (n j : Nat) (u : Value) : Obj.mapSeq (·.setIfInBounds j u) { cls := .type "list", data := .seq its.toArray n } = { cls := .type "list", data := .seq (its.set j u).toArray n } := by
  simp [Obj.mapSeq]
theorem Inv.lst {pins : List (Addr × Obj)} {σ : St} {H : Hp} {s : Shared} {p : Addr} {xs : List V} (I : Inv X pins σ H s) (h : H p = some (.lst xs)) :
    ∃ (its : List Value) (n : Nat), Vals xs its ∧ s.heap.get? p = some { cls := .type "list", data := .seq its.toArray n } ∧ xs.length ≤ sizeLine := by
  obtain ⟨z, its, n, r, e⟩ := I.hok p _ h
  exact ⟨its, n, r, e, z⟩
/-- the list at p is written by an update of its object -/
theorem Inv.lstUpd {pins : List (Addr × Obj)} {σ : St} {H : Hp} {s : Shared} {p : Addr} {xs ys : List V} {its its' : List Value} {n n' : Nat} {f : Obj → Obj} (I : Inv X pins σ H s) (h : H p = some (.lst xs))
    (ho : s.heap.get? p = some { cls := .type "list", data := .seq its.toArray n }) (hf : f { cls := .type "list", data := .seq its.toArray n } = { cls := .type "list", data := .seq its'.toArray n' }) (r : Vals ys its') (hz : ys.length ≤ sizeLine) (t : Nat) :
    Inv X pins σ (upd H p (.lst ys)) { s with heap := s.heap.update p f, toks := t } := by
  have e : (s.heap.update p f).get? p = some { cls := .type "list", data := .seq its'.toArray n' } := by
    rw [Heap.get?_update_self f ho (by rw [hf] <;> rfl), hf]
  refine I.write (x := p) (e := p) (by rw [h]; trivial) (.inl rfl) (fun b u hb q => (Heap.get?_update_other _ _ (Ne.symm hb)).trans q) ⟨_, e⟩ ?_
  exact ⟨hz, its', n', r, e⟩
def rSetL : V → V → V → Hp → (Hp → Prop) → Prop := fun o i v H Q => ∃ p xs k j, o = .ref p ∧ i = .int k ∧ H p = some (.lst xs) ∧ ixN xs.length k = some j ∧ Q (upd H p (.lst (xs.set j v)))
theorem set_list : PSet X rSetL := by
  intro pins s σ H o i v ov iv u Q I ro ri rv h
  obtain ⟨p, xs, k, j, rfl, rfl, hp, hj, q⟩ := h
  cases ro
  obtain ⟨t, rfl⟩ := ri
  obtain ⟨its, n, r, ho, hz⟩ := I.lst hp
  obtain ⟨h1, h2, h3, h4⟩ := ixN_seq hj
  have hl := r.length
  have hn := line63
  have I' : Inv X pins σ (upd H p (.lst (xs.set j v))) { s with heap := s.heap.update p (Obj.mapSeq (·.setIfInBounds j u)) } :=
    I.lstUpd hp ho (mapSeq_set its n j u) (r.set rv j) (by rw [List.length_set]; exact hz) s.toks
  by_cases h0 : 0 ≤ k
  · have hk : k.toNat = j := by
      rw [seqIndex_of h0 h4] at h1
      exact Option.some.inj h1
    exact PySem.W.ki_setAt ho h0 (by omega) (by rw [List.size_toArray, ← hl]; exact h4) (by rw [hk]; exact ⟨_, I', q⟩)
  · have hk : (k + (its.toArray.size : Int)).toNat = j := by
      rw [seqIndex_neg (by omega) h3] at h1
      rw [List.size_toArray, ← hl]
      exact Option.some.inj h1
    exact PySem.W.ki_setBack ho (by omega) (by rw [List.size_toArray, ← hl]; exact h3) (by omega) (by rw [hk]; exact ⟨_, I', q⟩)

/-! ### slices -/
theorem slice_bounds (lo hi : Option Int) (n : Nat) : (sliceBounds lo hi none n).1 = ((HT.sIx n 0 lo : Nat) : Int) ∧ (sliceBounds lo hi none n).2.1 = ((HT.sIx n n hi : Nat) : Int) ∧ (sliceBounds lo hi none n).2.2 = 1 := by
  refine ⟨?_, ?_, rfl⟩
  · cases lo with
    | none => simp [sliceBounds, HT.sIx]
    | some i =>
      simp only [sliceBounds, HT.sIx, Option.getD_none, show (1 : Int) > 0 by decide, if_true]
      by_cases h : i < 0
      · simp only [h, if_true] <;> omega
      · simp only [h, if_false] <;> omega
  · cases hi with
    | none => simp [sliceBounds, HT.sIx]
    | some i =>
      simp only [sliceBounds, HT.sIx, Option.getD_none, show (1 : Int) > 0 by decide, if_true]
      by_cases h : i < 0
      · simp only [h, if_true] <;> omega
      · simp only [h, if_false] <;> omega
theorem slicePick_cut (its : List Value) (lo hi : Option Int) : slicePick its.toArray lo hi none = ((its.drop (HT.sIx its.length 0 lo)).take (HT.sIx its.length its.length hi - HT.sIx its.length 0 lo)).toArray := by
  obtain ⟨h1, h2, h3⟩ := slice_bounds lo hi its.toArray.size
  unfold slicePick
  rw [h1, h2, h3]
  simp only [sliceRange_one, pick_run, List.size_toArray] <;> rfl
/-- xs[lo:hi] of a list: a new list -/
def rSlL (K : PySem.W.Frag) : V → Option Int → Option Int → Hp → VK → Prop := fun x lo hi H Q => ∃ a xs, x = .ref a ∧ SqL K H a xs ∧ ∀ p, H p = none → Q (.ref p) (upd H p (.lst (cutV xs lo hi)))
theorem sl_list : SlR X (rSlL X.K) := by
  intro pins s σ H x v vl vu lo hi sl Q I rx hs pl pu h
  obtain ⟨a, xs, rfl, hx, q⟩ := h
  cases rx
  obtain ⟨its, r, ht, hz⟩ := I.list hx
  have hlen := r.length
  refine ⟨"list", _, slot_list_getitem.lookup, ht.isList.typeIs, ?_⟩
  refine wpAny_getItem_list_slice ht.isList hs pl pu .none (by simp) ?_ (by rw [List.size_toArray] <;> omega)
  rw [slicePick_cut, ← hlen]
  refine ⟨.ref s.heap.objs.size, _, I.laid (t' := s.toks) (o := .lst (cutV xs lo hi)) (fun b ob q => Heap.get?_push_of_some _ q) (Nat.le_refl _) ?_, rfl, q _ (I.hok.fresh (Nat.le_refl _))⟩
  exact ⟨Nat.le_trans (cutV_length xs lo hi) hz, _, 0, (r.drop (HT.sIx xs.length 0 lo)).take (HT.sIx xs.length xs.length hi - HT.sIx xs.length 0 lo), Heap.get?_push_size _ rfl⟩

/-! ### in, not in: flat items -/
def flatV : V → Bool
  | .non => true
  | .bl _ => true
  | .int _ => true
  | .str _ => true
  | _ => false
/-- == of flat values -/
def eqV : V → V → Bool
  | .non, .non => true
  | .bl a, .bl b => a == b
  | .bl a, .int b => (if a then 1 else 0) == b
  | .int a, .bl b => a == (if b then 1 else 0)
  | .int a, .int b => a == b
  | .str a, .str b => a == b
  | _, _ => false
theorem eqAt_V {A : Around} {s : Shared} {y x : V} {u v : Value} (ry : RelV y u) (rx : RelV x v) (fy : flatV y = true) (fx : flatV x = true) : SeqAt.EqAt A s u v (eqV y x) := by
  cases y with
  | non =>
    cases ry
    cases x with
    | non => cases rx; exact SeqAt.EqAt.same _
    | bl b => cases rx; exact SeqAt.EqAt.none_bool b
    | int b => obtain ⟨t, rfl⟩ := rx; exact SeqAt.EqAt.none_int b t
    | str b => obtain ⟨t, rfl⟩ := rx; exact SeqAt.EqAt.none_str b t
    | _ => exact absurd (show false = true from fx) Bool.false_ne_true
  | bl a =>
    cases ry
    cases x with
    | non => cases rx; exact SeqAt.EqAt.bool_none a
    | bl b => cases rx; exact SeqAt.EqAt.bool_bool a b
    | int b => obtain ⟨t, rfl⟩ := rx; exact SeqAt.EqAt.bool_int a b t
    | str b => obtain ⟨t, rfl⟩ := rx; exact SeqAt.EqAt.bool_str a b t
    | _ => exact absurd (show false = true from fx) Bool.false_ne_true
  | int a =>
    obtain ⟨t', rfl⟩ := ry
    cases x with
    | non => cases rx; exact SeqAt.EqAt.int_none a t'
    | bl b => cases rx; exact SeqAt.EqAt.int_bool a t' b
    | int b => obtain ⟨t, rfl⟩ := rx; exact SeqAt.EqAt.int_int a t' b t
    | str b => obtain ⟨t, rfl⟩ := rx; exact SeqAt.EqAt.int_str a t' b t
    | _ => exact absurd (show false = true from fx) Bool.false_ne_true
  | str a =>
    obtain ⟨t', rfl⟩ := ry
    cases x with
    | non => cases rx; exact SeqAt.EqAt.str_none a t'
    | bl b => cases rx; exact SeqAt.EqAt.str_bool a t' b
    | int b => obtain ⟨t, rfl⟩ := rx; exact SeqAt.EqAt.str_int a t' b t
    | str b => obtain ⟨t, rfl⟩ := rx; exact SeqAt.EqAt.str_str a t' b t
    | _ => exact absurd (show false = true from fx) Bool.false_ne_true
  | _ => exact absurd (show false = true from fy) Bool.false_ne_true
/-- the items' answers, read off the values (a value's own answer does not lean on its token) -/
def eqU (x : V) (u : Value) : Bool := match u with
  | .none => eqV .non x
  | .bool b => eqV (.bl b) x
  | .int i _ => eqV (.int i) x
  | .str z _ => eqV (.str z) x
  | _ => false
theorem eqU_of {x y : V} {u : Value} (r : RelV y u) (f : flatV y = true) : eqU x u = eqV y x := by
  cases y with
  | non => cases r; rfl
  | bl b => cases r; rfl
  | int i => obtain ⟨t, rfl⟩ := r; rfl
  | str z => obtain ⟨t, rfl⟩ := r; rfl
  | _ => exact absurd (show false = true from f) Bool.false_ne_true
theorem any_eqU {x : V} : ∀ {xs : List V} {us : List Value}, Vals xs us → xs.all flatV = true → us.any (eqU x) = xs.any fun y => eqV y x
  | _, _, .nil, _ => rfl
  | y :: xs, u :: us, .cons r t, f => by
    rw [List.all_cons, Bool.and_eq_true] at f
    rw [List.any_cons, List.any_cons, eqU_of r f.1, any_eqU t f.2]
theorem mem_eqAt {A : Around} {s : Shared} {x : V} {v : Value} (rx : RelV x v) (fx : flatV x = true) : ∀ {xs : List V} {us : List Value}, Vals xs us → xs.all flatV = true → ∀ u ∈ us, SeqAt.EqAt A s u v (eqU x u)
  | _, _, .nil, _ => fun u hu => by cases hu
  | y :: xs, u :: us, .cons r t, f => fun u' hu => by
    rw [List.all_cons, Bool.and_eq_true] at f
    rcases List.mem_cons.mp hu with rfl | hu
    · rw [eqU_of r f.1]; exact eqAt_V r rx f.1 fx
    · exact mem_eqAt rx fx t f.2 u' hu
def inV (x : V) (xs : List V) : Bool := xs.any fun y => eqV y x
/-- x in a list or tuple of flat items -/
def rIn (K : PySem.W.Frag) (neg : Bool) : R2 := fun x y H Q => ∃ p xs, y = .ref p ∧ (SqL K H p xs ∨ SqT K H p xs) ∧ flatV x = true ∧ xs.all flatV = true ∧ Q (.bl (if neg then !inV x xs else inV x xs)) H
theorem op_in_seq : OpR X (compareOp .In) (rIn X.K false) := by
  intro pins s σ H x y v u Q I rx ry h
  obtain ⟨p, xs, rfl, hq, fx, fs, q⟩ := h
  cases ry
  rcases hq with hq | hq
  · obtain ⟨its, r, pl, hz⟩ := I.list hq
    refine SeqAt.in_listAt (eqU x) pl.isList (fun w hw => mem_eqAt rx fx r fs w (by simpa using hw)) ⟨.bl _, H, I, rfl, ?_⟩
    rw [show its.toArray.any (eqU x) = its.any (eqU x) by simp, any_eqU r fs]
    exact q
  · obtain ⟨its, r, pl, hz⟩ := I.tuple hq
    refine SeqAt.in_tupleAt (eqU x) pl (fun w hw => mem_eqAt rx fx r fs w (by simpa using hw)) ⟨.bl _, H, I, rfl, ?_⟩
    rw [show its.toArray.any (eqU x) = its.any (eqU x) by simp, any_eqU r fs]
    exact q
theorem op_notIn_seq : OpR X (compareOp .NotIn) (rIn X.K true) := by
  intro pins s σ H x y v u Q I rx ry h
  obtain ⟨p, xs, rfl, hq, fx, fs, q⟩ := h
  cases ry
  rcases hq with hq | hq
  · obtain ⟨its, r, pl, hz⟩ := I.list hq
    refine SeqAt.notIn_listAt (eqU x) pl.isList (fun w hw => mem_eqAt rx fx r fs w (by simpa using hw)) ⟨.bl _, H, I, rfl, ?_⟩
    rw [show its.toArray.any (eqU x) = its.any (eqU x) by simp, any_eqU r fs]
    exact q
  · obtain ⟨its, r, pl, hz⟩ := I.tuple hq
    refine SeqAt.notIn_tupleAt (eqU x) pl (fun w hw => mem_eqAt rx fx r fs w (by simpa using hw)) ⟨.bl _, H, I, rfl, ?_⟩
    rw [show its.toArray.any (eqU x) = its.any (eqU x) by simp, any_eqU r fs]
    exact q

/-! ### len, list(x), tuple(x) of any list or tuple that is read -/
theorem call_len_seq : CallR X (.builtin "len") (fun xs H Q => ∃ p ys, xs = [.ref p] ∧ (SqL X.K H p ys ∨ SqT X.K H p ys) ∧ Q (.int ys.length) H) := by
  intro pins s σ H xs us Q I r h
  obtain ⟨p, ys, rfl, hq, q⟩ := h
  obtain ⟨u, rfl, rx⟩ := vals1 r
  cases rx
  have hn := line63
  rcases hq with hq | hq
  · obtain ⟨its, r', pl, hz⟩ := I.list hq
    have hlen := r'.length
    exact Calls.call_len_list pl.isList (by simp only [List.size_toArray] <;> omega) ⟨.int ys.length, H, I.tok _, ⟨s.toks + 1, by rw [List.size_toArray, hlen]⟩, q⟩
  · obtain ⟨its, r', pl, hz⟩ := I.tuple hq
    have hlen := r'.length
    exact len_tuple pl (by simp only [List.size_toArray] <;> omega) ⟨.int ys.length, H, I.tok _, ⟨s.toks + 1, by rw [List.size_toArray, hlen]⟩, q⟩
theorem CallR.or {f : Value} {r r' : List V → Hp → VK → Prop} (h : CallR X f r) (h' : CallR X f r') : CallR X f (fun xs H Q => r xs H Q ∨ r' xs H Q) := by
  intro pins s σ H xs us Q I rs q
  rcases q with q | q
  · exact h pins s σ H xs us Q I rs q
  · exact h' pins s σ H xs us Q I rs q
theorem call_list_of : CallR X (.type "list") (fun xs H Q => ∃ p ys, xs = [.ref p] ∧ (SqL X.K H p ys ∨ SqT X.K H p ys) ∧ ∀ l, H l = none → Q (.ref l) (upd H l (.lst ys))) := by
  intro pins s σ H xs us Q I r h
  obtain ⟨p, ys, rfl, hq, q⟩ := h
  obtain ⟨u, rfl, rx⟩ := vals1 r
  cases rx
  have fin : ∀ (its : List Value), Vals ys its → ys.length ≤ sizeLine → ∀ (h' : Heap) (c' : Nat), (∀ b o', s.heap.get? b = some o' → h'.get? b = some o') →
      h'.get? s.heap.objs.size = some { cls := .type "list", dict := none, data := .seq its.toArray c', slots := #[] } → EP X pins σ Q (.ref s.heap.objs.size) { s with heap := h' } := fun its r' hz h' c' kp e =>
    ⟨.ref s.heap.objs.size, _, I.laid (t' := s.toks) kp (Nat.le_refl _) (show ObjOk X.prog X.w _ h' _ (.lst ys) from ⟨hz, its, c', r', e⟩), rfl, q _ (I.hok.fresh (Nat.le_refl _))⟩
  rcases hq with hq | hq
  · obtain ⟨its, r', pl, hz⟩ := I.list hq
    have hlen := r'.length
    obtain ⟨o, ho, hc, n, hd⟩ := pl.isList
    exact call_list_seq p (.inl rfl) ho hc hd (fun h' c' kp e => fin its r' hz h' c' kp e) (by simp only [List.size_toArray] <;> omega)
  · obtain ⟨its, r', pl, hz⟩ := I.tuple hq
    have hlen := r'.length
    obtain ⟨o, ho, hc, n, hd⟩ := pl
    exact call_list_seq p (.inr rfl) ho hc hd (fun h' c' kp e => fin its r' hz h' c' kp e) (by simp only [List.size_toArray] <;> omega)

/-! ### the call of a builtin's method: o.m(..) -/
/-- the value is of that builtin type -/
def tyV (K : PySem.W.Frag) (T : String) (x : V) (H : Hp) : Prop := match x with
  | .str _ => T = "str"
  | .int _ => T = "int"
  | .ref p => (T = "list" ∧ ∃ xs, SqL K H p xs) ∨ (T = "tuple" ∧ ∃ o, K.lookup p = some o ∧ o.cls = .type "tuple" ∧ o.dict = none) ∨
      (T = "dict" ∧ ((∃ kvs, H p = some (.dK kvs)) ∨ ∃ kvs, H p = some (.dT kvs))) ∨ (T = "set" ∧ ∃ S n, H p = some (.set S n))
  | _ => False
theorem tyV_is {pins : List (Addr × Obj)} {σ : St} {H : Hp} {s : Shared} {T : String} {x : V} {v : Value} (I : Inv X pins σ H s) (r : RelV x v) (ty : tyV X.K T x H) :
    s.TypeIs v T ∧ ∀ a, v = .ref a → ∃ ob, s.heap.get? a = some ob ∧ ob.dict = none := by
  cases x with
  | str z =>
    obtain ⟨t, rfl⟩ := r
    cases (show T = "str" from ty)
    exact ⟨typeIs_str s z t, fun _ e => nomatch e⟩
  | int i =>
    obtain ⟨t, rfl⟩ := r
    cases (show T = "int" from ty)
    exact ⟨typeIs_int s i t, fun _ e => nomatch e⟩
  | ref p =>
    cases r
    rcases ty with ⟨rfl, xs, hq⟩ | ⟨rfl, o, hk, hc, hd⟩ | ⟨rfl, hk⟩ | ⟨rfl, S, n, hk⟩
    · obtain ⟨its, _, pl, _⟩ := I.list hq
      refine ⟨pl.isList.typeIs, fun a e => ?_⟩
      cases e
      obtain ⟨o, n, e, c, hd, _⟩ := pl
      exact ⟨o, e, hd⟩
    · refine ⟨⟨o, I.kIn p o hk, hc⟩, fun a e => ?_⟩
      cases e
      exact ⟨o, I.kIn _ o hk, hd⟩
    · have z : ∃ o, s.heap.get? p = some o ∧ o.ExactDict := by
        rcases hk with ⟨kvs, hk⟩ | ⟨kvs, hk⟩
        · obtain ⟨_, _, _, _, o, _, _, e, ex, _⟩ := I.hok p _ hk
          exact ⟨o, e, ex⟩
        · obtain ⟨_, _, _, _, o, _, _, e, ex, _⟩ := I.hok p _ hk
          exact ⟨o, e, ex⟩
      obtain ⟨o, e, ex⟩ := z
      refine ⟨⟨o, e, ex.1⟩, fun a e2 => ?_⟩
      cases e2
      exact ⟨o, e, ex.2.1⟩
    · obtain ⟨o, _, _, _, e, ex, _⟩ := I.hok p _ hk
      refine ⟨⟨o, e, ex.1⟩, fun a e2 => ?_⟩
      cases e2
      exact ⟨o, e, ex.2.1⟩
  | _ => exact False.elim ty
def tBM0 (K : PySem.W.Frag) (T : String) (r : V → List V → Hp → VK → Prop) (to : TE) : TE := fun σ H Q => to σ H fun x H1 => tyV K T x H1 ∧ r x [] H1 Q
def tBM (K : PySem.W.Frag) (T : String) (r : V → List V → Hp → VK → Prop) (to : TE) (t : TA) : TE := fun σ H Q => to σ H fun x H1 => tyV K T x H1 ∧ t σ H1 fun xs H2 => r x xs H2 Q
variable {o e : Expr} {es : List Expr} {to : TE} {t : TA} {name : Str} {apos cpos : Pos} {T id : String} {r : V → List V → Hp → VK → Prop}
theorem pe_bm (pa : PlainAttrs T) (slot : Slot T name id) (hty : typeOf (.builtin id) = pure (.type "method_descriptor")) (hm : MtR X id r) (ho : PE X o to) (ha : PA X (e :: es) t)
    (hbase : attributeBase o name X.env (eval o X.env) = eval o X.env := by rfl)
    (hfew : ((backTo cpos (starEach (e :: es) X.env)).all (fun x => !x.1) && (backToKw cpos (keywordEach [] X.env)).all (fun x => x.1.isSome)
      && decide ((e :: es).length + ([] : List Keyword).length + (if ([] : List Keyword).isEmpty then 0 else 1) < 30)) = true := by rfl)
    (hline : (apos.endLine == cpos.line) = true := by rfl) (hs : starEach (e :: es) X.env = (false, eval e X.env) :: starEach es X.env := by rfl) (hplain : (backTo cpos (starEach es X.env)).any (·.1) = false := by rfl) :
    PE X (.Call (.Attribute o name apos) (e :: es) [] cpos) (tBM X.K T r to t) := by
  intro pins s σ H Q I h
  refine wpAny_Call_method_late hbase hfew hline rfl (thn (ho pins s σ H _ I h) fun v s1 ⟨x, H1, I1, r1, ty, q1⟩ => ?_)
  obtain ⟨h1, h2⟩ := tyV_is I1 r1 ty
  refine ⟨T, id, pa, slot, hty, h1, h2, ?_⟩
  have hA := ha cpos pins s1 σ H1 _ I1 q1
  rw [hs] at hA ⊢
  refine Calls.callWith_builtin (by show (false || (backTo cpos (starEach es X.env)).any (·.1)) = false; rw [hplain] <;> rfl) (Calls.evalArgs_plain ?_)
  exact thn hA fun us s2 ⟨vs, H2, I2, r2, q2⟩ => hm pins s2 σ H2 x vs v us Q I2 r1 r2 q2
/- xs.append(e), list.index on a module's tuple .. are MtR facts of 06m -/
end
end L2

namespace L2
open PySem PySem.Spec PyProof.Rows

def MtM (X : Cx) (id : String) (r : V → List V → Hp → VK → Prop) : Prop :=
  ∀ (pins : List (Addr × Obj)) (s : Shared) (σ : St) (H : Hp) (x : V) (xs : List V) (v : Value) (us : List Value) (Q : VK), Inv X pins σ H s → RelV x v → Vals xs us → r x xs H Q →
    wpAny (model X.prog X.w) X.A (call (.builtin id) (v :: us)) (EP X pins σ Q) X.xe s

/-! ### lists of values -/
theorem Vals.one : ∀ {x : V} {us : List Value}, Vals [x] us → ∃ u, us = [u] ∧ RelV x u
  | _, _, .cons r .nil => ⟨_, rfl, r⟩
theorem Vals.two : ∀ {x y : V} {us : List Value}, Vals [x, y] us → ∃ u v, us = [u, v] ∧ RelV x u ∧ RelV y v
  | _, _, _, .cons r (.cons q .nil) => ⟨_, _, rfl, r, q⟩
theorem Vals.zero : ∀ {us : List Value}, Vals [] us → us = []
  | _, .nil => rfl
theorem Vals.dropLast {xs : List V} {us : List Value} (h : Vals xs us) : Vals xs.dropLast us.dropLast := by
  induction h with
  | nil => exact .nil
  | cons r t ih =>
    cases t with
    | nil => exact .nil
    | cons q t' => exact .cons r ih
theorem Vals.eraseIdx : ∀ {xs : List V} {us : List Value} (i : Nat), Vals xs us → Vals (xs.eraseIdx i) (us.eraseIdx i)
  | _, _, _, .nil => .nil
  | _, _, 0, .cons _ t => t
  | _, _, i + 1, .cons r t => .cons r (Vals.eraseIdx i t)
theorem Vals.reverse {xs : List V} {us : List Value} (h : Vals xs us) : Vals xs.reverse us.reverse := by
  induction h with
  | nil => exact .nil
  | cons r t ih => rw [List.reverse_cons, List.reverse_cons]; exact Vals.append ih (.cons r .nil)
theorem len_erase {α : Type} : ∀ (l : List α) (i : Nat), (l.eraseIdx i).length ≤ l.length
  | [], _ => Nat.le_refl _
  | _ :: _, 0 => Nat.le_succ _
  | _ :: r, i + 1 => Nat.succ_le_succ (len_erase r i)

section
variable {X : Cx} {pins : List (Addr × Obj)} {σ : St} {H : Hp} {s : Shared} {l b : Addr} {xs ys zs : List V}

/-! ### the two steps: a tracked list is rewritten, a new list is laid -/
theorem Inv.lset {its its' : List Value} {n : Nat} {f : Array Value → Array Value} {t' : Nat} (I : Inv X pins σ H s) (hH : H l = some (.lst xs))
    (e : s.heap.get? l = some { cls := .type "list", data := .seq its.toArray n }) (hf : f its.toArray = its'.toArray) (hv : Vals ys its') (hz : ys.length ≤ sizeLine) :
    Inv X pins σ (upd H l (.lst ys)) { s with heap := s.heap.update l (Obj.mapSeq f), toks := t' } := by
  have q := PySem.IsL.update e f
  rw [hf] at q
  refine I.write (x := l) (e := l) (by rw [hH]; exact trivial) (.inl rfl) (fun b' u hb hu => (Heap.get?_update_other s.heap (Obj.mapSeq f) (Ne.symm hb)).trans hu) ⟨_, q⟩ ?_
  exact ⟨hz, its', _, hv, q⟩
theorem Inv.lnew {its : List Value} {t' : Nat} (I : Inv X pins σ H s) (hv : Vals ys its) (hz : ys.length ≤ sizeLine) :
    Inv X pins σ (upd H s.heap.objs.size (.lst ys)) { s with heap := s.heap.push { cls := .type "list", data := .seq its.toArray }, toks := t' } :=
  I.laid (fun _ _ q => Heap.get?_push_of_some _ q) (Nat.le_refl _) ⟨hz, its, 0, hv, Heap.get?_push_size _ rfl⟩
theorem Inv.fresh (I : Inv X pins σ H s) : H s.heap.objs.size = none := I.hok.fresh (Nat.le_refl _)
theorem Inv.lstM (I : Inv X pins σ H s) (hH : H l = some (.lst xs)) : xs.length ≤ sizeLine ∧ ∃ (its : List Value) (n : Nat), Vals xs its ∧ xs.length = its.length ∧ s.heap.get? l = some { cls := .type "list", data := .seq its.toArray n } := by
  obtain ⟨z, its, n, r, e⟩ := I.hok l _ hH
  exact ⟨z, its, n, r, r.length, e⟩

theorem notLongL {n : Nat} (h : n ≤ sizeLine) : Builtin.List.listTooLong n = false := by
  unfold Builtin.List.listTooLong
  exact decide_eq_false (by omega)
end

section
variable {X : Cx}

/-! ### methods -/
def rAppend : V → List V → Hp → VK → Prop := fun x vs H Q => ∃ l xs y, x = .ref l ∧ vs = [y] ∧ H l = some (.lst xs) ∧ xs.length < sizeLine ∧ Q .non (upd H l (.lst (xs ++ [y])))
theorem mt_append : MtM X "list.append" rAppend := by
  intro pins s σ H x vs v us Q I rx rv h
  obtain ⟨l, xs, y, rfl, rfl, hH, hz, q⟩ := h
  cases rx
  obtain ⟨u, rfl, ru⟩ := rv.one
  obtain ⟨z, its, n, r, hl, e⟩ := I.lstM hH
  refine call_meets F.slot_list_append ⟨_, e, rfl⟩ F.entry_list_append (F.args_list_append_2 _ _) (PySem.list_append l its.toArray n u (by rw [List.size_toArray]; omega)) ⟨e, ?_⟩
  refine ⟨.non, _, I.lset (its' := its ++ [u]) hH e (by simp) (r.append (.cons ru .nil)) ?_, rfl, q⟩
  rw [List.length_append, List.length_singleton]
  omega

def rExtend : V → List V → Hp → VK → Prop := fun x vs H Q => ∃ l b xs zs, x = .ref l ∧ vs = [.ref b] ∧ H l = some (.lst xs) ∧ H b = some (.lst zs) ∧ xs.length + zs.length ≤ sizeLine ∧ Q .non (upd H l (.lst (xs ++ zs)))
theorem mt_extend : MtM X "list.extend" rExtend := by
  intro pins s σ H x vs v us Q I rx rv h
  obtain ⟨l, b, xs, zs, rfl, rfl, hH, hB, hz, q⟩ := h
  cases rx
  obtain ⟨u, rfl, ru⟩ := rv.one
  cases ru
  obtain ⟨z, its, n, r, hl, e⟩ := I.lstM hH
  obtain ⟨z2, its2, n2, r2, hl2, e2⟩ := I.lstM hB
  have hsz : its.toArray.size + its2.toArray.size ≤ sizeLine := by rw [List.size_toArray, List.size_toArray]; omega
  have hlong : ¬ (!its.toArray.isEmpty && Builtin.List.listTooLong (its.toArray.size + its2.toArray.size)) = true := by
    rw [notLongL hsz, Bool.and_false]
    exact Bool.false_ne_true
  refine call_meets F.slot_list_extend ⟨_, e, rfl⟩ F.entry_list_extend (F.args_list_extend_2 _ _)
    (AutoSeq1.list_extend_list_list_0 l its.toArray n b its2.toArray n2 hlong (by rw [List.size_toArray]; omega) (by omega)) ⟨e, e2, ?_⟩
  refine ⟨.non, _, I.lset (its' := its ++ its2) hH e (by simp) (r.append r2) ?_, rfl, q⟩
  rw [List.length_append]
  omega

def rPop : V → List V → Hp → VK → Prop := fun x vs H Q => ∃ l xs y, x = .ref l ∧ vs = [] ∧ H l = some (.lst xs) ∧ xs[xs.length - 1]? = some y ∧ Q y (upd H l (.lst xs.dropLast))

def rPopAt : V → List V → Hp → VK → Prop := fun x vs H Q => ∃ l xs i k y, x = .ref l ∧ vs = [.int i] ∧ H l = some (.lst xs) ∧ -(2 ^ 63) ≤ i ∧ i < 2 ^ 63 ∧ seqIndex? i xs.length = some k ∧ xs[k]? = some y ∧ Q y (upd H l (.lst (xs.eraseIdx k)))
theorem mt_popAt : MtM X "list.pop" rPopAt := by
  intro pins s σ H x vs v us Q I rx rv h
  obtain ⟨l, xs, i, k, y, rfl, rfl, hH, h1, h2, hk, hy, q⟩ := h
  cases rx
  obtain ⟨u, rfl, ru⟩ := rv.one
  obtain ⟨t, rfl⟩ := ru
  obtain ⟨z, its, n, r, hl, e⟩ := I.lstM hH
  obtain ⟨w, hw, rw'⟩ := r.get hy
  refine call_meets F.slot_list_pop ⟨_, e, rfl⟩ F.entry_list_pop (F.args_list_pop_2 _ _)
    (MeetsSeq.list_pop_at l its.toArray n i t k w (fitsIndex_both h1 h2) (by rw [List.size_toArray, ← hl]; exact hk) (by rw [← Array.getElem?_toList]; exact hw) (by rw [List.size_toArray]; omega)) ⟨e, ?_⟩
  refine ⟨y, _, I.lset (its' := its.eraseIdx k) hH e ?_ (r.eraseIdx k) ?_, rw', q⟩
  · show its.toArray.eraseIdxIfInBounds k = (its.eraseIdx k).toArray
    rw [List.eraseIdxIfInBounds_toArray]
  · have := len_erase xs k
    omega

def rReverse : V → List V → Hp → VK → Prop := fun x vs H Q => ∃ l xs, x = .ref l ∧ vs = [] ∧ H l = some (.lst xs) ∧ Q .non (upd H l (.lst xs.reverse))

def rClear : V → List V → Hp → VK → Prop := fun x vs H Q => ∃ l xs, x = .ref l ∧ vs = [] ∧ H l = some (.lst xs) ∧ Q .non (upd H l (.lst []))

/-! ### list + list, list += list, list * int -/
def rCat : R2 := fun x y H Q => ∃ l b xs zs, x = .ref l ∧ y = .ref b ∧ H l = some (.lst xs) ∧ H b = some (.lst zs) ∧ xs.length + zs.length ≤ sizeLine ∧ ∀ p, H p = none → Q (.ref p) (upd H p (.lst (xs ++ zs)))
theorem op_cat : OpR X (binaryOp .Add) rCat := by
  intro pins s σ H x y v u Q I rx ry h
  obtain ⟨l, b, xs, zs, rfl, rfl, hH, hB, hz, q⟩ := h
  cases rx
  cases ry
  obtain ⟨z, its, n, r, hl, e⟩ := I.lstM hH
  obtain ⟨z2, its2, n2, r2, hl2, e2⟩ := I.lstM hB
  refine PySem.P.add_list e e2 ?_ (by rw [List.size_toArray, List.size_toArray]; omega)
  have ea : its.toArray ++ its2.toArray = (its ++ its2).toArray := by simp
  rw [ea]
  exact ⟨.ref _, _, I.lnew (t' := s.toks) (r.append r2) (by rw [List.length_append]; omega), rfl, q _ I.fresh⟩
/-- a list times an int (a negative one is nothing) -/
def rRep : R2 := fun x y H Q => ∃ l k xs, x = .ref l ∧ y = .int k ∧ H l = some (.lst xs) ∧ -(2 ^ 63) ≤ k ∧ k < 2 ^ 63 ∧ xs.length * k.toNat ≤ sizeLine ∧
  ∀ p, H p = none → Q (.ref p) (upd H p (.lst (List.replicate k.toNat xs).flatten))

/-! ### del xs[i] -/
end

/-! ### xs[a:b] = ys -/
section
variable {prog : Program} {w : World} {A : Around} {E : Value → Shared → Prop} {s : Shared}
set_option maxRecDepth 100000 in
end

section
variable {X : Cx}
end
end L2

namespace L2
open PySem PySem.Spec PyProof.Rows

/-! ### lists of pairs as tables -/
section
variable {κ : Type} [DecidableEq κ]
def valV (kvs : List (κ × V)) (k : κ) : Option V := (kvs.find? fun kv => decide (kv.1 = k)).map (·.2)
/-- in its place, or at the end -/
def putK (kvs : List (κ × V)) (k : κ) (v : V) : List (κ × V) :=
  if (kvs.any fun kv => decide (kv.1 = k)) = true then kvs.map (fun kv => if kv.1 = k then (kv.1, v) else kv) else kvs ++ [(k, v)]
def dropK (kvs : List (κ × V)) (k : κ) : List (κ × V) := kvs.filter fun kv => decide (kv.1 ≠ k)

theorem valV_pos {p : κ × V} {r : List (κ × V)} {k : κ} (e : p.1 = k) : valV (p :: r) k = some p.2 := by simp [valV, List.find?_cons, e]
theorem valV_neg {p : κ × V} {r : List (κ × V)} {k : κ} (e : ¬ p.1 = k) : valV (p :: r) k = valV r k := by simp [valV, List.find?_cons, e]

theorem RelO.getD {o : Option V} {u : Option Value} {d : V} {d' : Value} (r : RelO o u) (rd : RelV d d') : RelV (o.getD d) (u.getD d') := by
  cases o with
  | none => cases u with
    | none => exact rd
    | some _ => exact (show False from r).elim
  | some _ => cases u with
    | none => exact (show False from r).elim
    | some _ => exact r

/-- raw tables of the same keys -/
theorem KV.val {kvs : List (κ × V)} {vs : List (κ × Value)} (r : KV kvs vs) (k : κ) : RelO (valV kvs k) (valueAt vs k) := by
  unfold KV at r
  induction r with
  | nil => exact True.intro
  | @cons p q ps qs h t ih =>
    obtain ⟨h1, h2⟩ := h
    by_cases e : p.1 = k
    · have e' : q.1 = k := h1.symm.trans e
      have b : valueAt (q :: qs) k = some q.2 := by simp [valueAt, List.find?_cons, e']
      rw [valV_pos e, b]; exact h2
    · have e' : ¬ q.1 = k := fun z => e (h1.trans z)
      have b : valueAt (q :: qs) k = valueAt qs k := by simp [valueAt, List.find?_cons, e']
      rw [valV_neg e, b]; exact ih
theorem KV.any {kvs : List (κ × V)} {vs : List (κ × Value)} (r : KV kvs vs) (k : κ) : (kvs.any fun kv => decide (kv.1 = k)) = vs.any fun kv => decide (kv.1 = k) := by
  unfold KV at r
  induction r with
  | nil => rfl
  | cons h t ih => rw [List.any_cons, List.any_cons, ih, h.1]
theorem KV.drop {kvs : List (κ × V)} {vs : List (κ × Value)} (r : KV kvs vs) (k : κ) : KV (dropK kvs k) (without vs k) := by
  unfold KV at r ⊢
  unfold dropK without
  induction r with
  | nil => exact .nil
  | @cons p q ps qs h t ih =>
    obtain ⟨h1, h2⟩ := h
    rw [List.filter_cons, List.filter_cons]
    by_cases e : p.1 = k
    · have a : ¬ decide (p.1 ≠ k) = true := by simp [e]
      have b : ¬ decide (q.1 ≠ k) = true := by simp [h1.symm.trans e]
      rw [if_neg a, if_neg b]; exact ih
    · have e' : ¬ q.1 = k := fun z => e (h1.trans z)
      have a : decide (p.1 ≠ k) = true := by simp [e]
      have b : decide (q.1 ≠ k) = true := by simp [e']
      rw [if_pos a, if_pos b]; exact .cons ⟨h1, h2⟩ ih
theorem KV.keys {kvs : List (κ × V)} {vs : List (κ × Value)} (r : KV kvs vs) : kvs.map (·.1) = vs.map (·.1) := by
  unfold KV at r
  induction r with
  | nil => rfl
  | cons h t ih => rw [List.map_cons, List.map_cons, ih, h.1]
theorem KV.length {kvs : List (κ × V)} {vs : List (κ × Value)} (r : KV kvs vs) : kvs.length = vs.length := Paired.length r
end

/-! ### a tracked dict, its keys ints and texts or tuples of these -/

/-- raw entries of a dict with tuple keys -/
abbrev KT (H : Hp) : List (List Key × V) → List (List Key × Addr × Value) → Prop := Paired fun p q => p.1 = q.1 ∧ H q.2.1 = some (.tup (p.1.map kV)) ∧ RelV p.2 q.2.2
theorem KT.val {H : Hp} {kvs : List (List Key × V)} {xs : List (List Key × Addr × Value)} (r : KT H kvs xs) (k : List Key) : RelO (valV kvs k) ((atKey xs k).map (·.2)) := by
  induction r with
  | nil => exact True.intro
  | @cons p q ps qs h t ih =>
    obtain ⟨h1, _, h2⟩ := h
    by_cases e : p.1 = k
    · have e' : q.1 = k := h1.symm.trans e
      have b : atKey (q :: qs) k = some q.2 := by simp [atKey, List.find?_cons, e']
      rw [valV_pos e, b]; exact h2
    · have e' : ¬ q.1 = k := fun z => e (h1.trans z)
      have b : atKey (q :: qs) k = atKey qs k := by simp [atKey, List.find?_cons, e']
      rw [valV_neg e, b]; exact ih
theorem KT.keeps {H H' : Hp} {kvs : List (List Key × V)} {xs : List (List Key × Addr × Value)} (r : KT H kvs xs) (ht : ∀ b ys, H b = some (.tup ys) → H' b = some (.tup ys)) : KT H' kvs xs :=
  Paired.mapP r fun _ _ z => ⟨z.1, ht _ _ z.2.1, z.2.2⟩

section
variable {P : Program} {w : World} {H : Hp} {h : Heap} {a : Addr}
end

/-- what the dict at a holds at the key y -/
def DGet (H : Hp) (a : Addr) (y : V) (r : Option V) : Prop :=
  (∃ kvs k, Rd H a (.dK kvs) ∧ y = kV k ∧ r = valV kvs k) ∨ ∃ kvs k b, Rd H a (.dT kvs) ∧ y = .ref b ∧ H b = some (.tup (k.map kV)) ∧ r = valV kvs k
/-- the heap behind a[y] = v -/
def DPut (H : Hp) (a : Addr) (y v : V) (H' : Hp) : Prop :=
  (∃ kvs k, H a = some (.dK kvs) ∧ y = kV k ∧ kvs.length < sizeLine ∧ H' = upd H a (.dK (putK kvs k v))) ∨
  ∃ kvs k b, H a = some (.dT kvs) ∧ y = .ref b ∧ H b = some (.tup (k.map kV)) ∧ kvs.length < sizeLine ∧ H' = upd H a (.dT (putK kvs k v))
theorem DGet.k {H : Hp} {a : Addr} {kvs : List (Key × V)} {k : Key} (e : H a = some (.dK kvs)) : DGet H a (kV k) (valV kvs k) := .inl ⟨kvs, k, .inl e, rfl, rfl⟩
theorem DGet.t {H : Hp} {a b : Addr} {kvs : List (List Key × V)} {k : List Key} (e : H a = some (.dT kvs)) (eb : H b = some (.tup (k.map kV))) : DGet H a (.ref b) (valV kvs k) := .inr ⟨kvs, k, b, .inl e, rfl, eb, rfl⟩
theorem DPut.k {H : Hp} {a : Addr} {kvs : List (Key × V)} {k : Key} {v : V} (e : H a = some (.dK kvs)) (hl : kvs.length < sizeLine) : DPut H a (kV k) v (upd H a (.dK (putK kvs k v))) := .inl ⟨kvs, k, e, rfl, hl, rfl⟩
theorem DPut.t {H : Hp} {a b : Addr} {kvs : List (List Key × V)} {k : List Key} {v : V} (e : H a = some (.dT kvs)) (eb : H b = some (.tup (k.map kV))) (hl : kvs.length < sizeLine) :
    DPut H a (.ref b) v (upd H a (.dT (putK kvs k v))) := .inr ⟨kvs, k, b, e, rfl, eb, hl, rfl⟩

section
variable {X : Cx} {pins : List (Addr × Obj)} {σ : St} {H : Hp} {s : Shared} {a : Addr} {y v : V} {u r : Value} {o : Option V} {A : Around} {E : Value → Shared → Prop}

theorem Inv.big (I : Inv X pins σ H s) : sysModules < s.heap.objs.size := by
  have h : mainGlobals < s.heap.objs.size := (I.mod.glob.keeps I.bk).lt
  exact Nat.lt_trans (by decide) h

end

section
variable {X : Cx} {pins : List (Addr × Obj)} {σ : St} {H : Hp} {s : Shared} {a : Addr} {kvs : List (Key × V)} {k : Key} {u : Value} {A : Around} {E : Value → Shared → Prop}
end

/-! ### readings and rules -/
/-- the element of a subscription, not a slice -/
def NoSl (i : Expr) : Prop := ∀ ov iv, subscripted i false ov iv = operate [ov, iv] (getItem ov iv)

/-- d[y] -/
def tDGet (td ty : TE) : TE := fun σ H Q => td σ H fun x H1 => ty σ H1 fun y H2 => ∃ a v, x = .ref a ∧ DGet H2 a y (some v) ∧ Q v H2
/-- y in d, y not in d -/
def tDIn (ty td : TE) : TE := fun σ H Q => ty σ H fun y H1 => td σ H1 fun x H2 => ∃ a o, x = .ref a ∧ DGet H2 a y o ∧ Q (.bl o.isSome) H2
def tDNotIn (ty td : TE) : TE := fun σ H Q => ty σ H fun y H1 => td σ H1 fun x H2 => ∃ a o, x = .ref a ∧ DGet H2 a y o ∧ Q (.bl (!o.isSome)) H2
/-- d[y] = v -/
def sDPut (td ty tv : TE) : TS := fun D σ H => tv σ H fun v H1 => td σ H1 fun x H2 => ty σ H2 fun y H3 => ∃ a H4, x = .ref a ∧ DPut H3 a y v H4 ∧ D.nx σ H4
/-- d[y] op= v -/
def sDAug (td ty tv : TE) (rd : V → V → Hp → VK → Prop) : TS := fun D σ H => td σ H fun x H1 => ty σ H1 fun y H2 => ∃ a v, x = .ref a ∧ DGet H2 a y (some v) ∧
  tv σ H2 fun y2 H3 => rd v y2 H3 fun z H4 => ∃ H5, DPut H4 a y z H5 ∧ D.nx σ H5
/-- del d[y] -/
def sDDel (td ty : TE) : TS := fun D σ H => td σ H fun x H1 => ty σ H1 fun y H2 => ∃ a kvs k, x = .ref a ∧ H2 a = some (.dK kvs) ∧ y = kV k ∧ (valV kvs k).isSome = true ∧ D.nx σ (upd H2 a (.dK (dropK kvs k)))

section
variable {X : Cx} {o i e value : Expr} {pos pos' tpos : Pos} {td ty tv : TE}
end

/-! ### displays -/
/-- {}, to be a dict of the kind that is wanted -/
def tDNewK : TE := fun _ H Q => ∀ p, H p = none → Q (.ref p) (upd H p (.dK []))
def tDNewT : TE := fun _ H Q => ∀ p, H p = none → Q (.ref p) (upd H p (.dT []))
section
variable {X : Cx} {pos : Pos}
end

/-- the pairs of a display, from the left -/
def tPairs : List (TE × TE) → St → Hp → (List (V × V) → Hp → Prop) → Prop
  | [], _, H, Q => Q [] H
  | (tk, tv) :: r, σ, H, Q => tk σ H fun x H1 => tv σ H1 fun y H2 => tPairs r σ H2 fun ps H3 => Q ((x, y) :: ps) H3
abbrev VV : List (V × V) → List (Value × Value) → Prop := Paired fun p q => RelV p.1 q.1 ∧ RelV p.2 q.2
def PPs (X : Cx) (pos : Pos) (keys : List (Option Expr)) (values : List Expr) (trs : List (TE × TE)) : Prop :=
  ∀ (pins : List (Addr × Obj)) (s : Shared) (σ : St) (H : Hp) (Q : List (V × V) → Hp → Prop), Inv X pins σ H s → tPairs trs σ H Q →
    wpAny (model X.prog X.w) X.A (evalPairs (pairTrees keys values X.env pos)) (fun vs s' => ∃ ps H', Inv X pins σ H' s' ∧ VV ps vs ∧ Q ps H') X.xe s

def mergeK (kvs more : List (Key × V)) : List (Key × V) := more.foldl (fun acc kv => putK acc kv.1 kv.2) kvs
/-- {k: v, ..} with keys ints and texts; the new dict stands empty while the pairs are made -/
def tDisp (trs : List (TE × TE)) : TE := fun σ H Q => ∀ p, H p = none → tPairs trs σ (upd H p (.dK [])) fun ps H2 => H2 p = some (.dK []) ∧ ∃ kvs : List (Key × V), ps = kvs.map (fun kv => (kV kv.1, kv.2)) ∧ kvs.length ≤ 15 ∧ Q (.ref p) (upd H2 p (.dK (mergeK [] kvs)))

/-! ### methods -/
/-- a method call o.m(e) of a built-in, with one argument: what must be seen of the text -/
structure M1 (X : Cx) (o : Expr) (m : Str) (apos : Pos) (e : Expr) (cpos : Pos) : Prop where
  base : attributeBase o m X.env (eval o X.env) = eval o X.env
  few : ((backTo cpos (starEach [e] X.env)).all (fun x => !x.1) && (backToKw cpos (keywordEach [] X.env)).all (fun x => x.1.isSome)
    && decide (([e] : List Expr).length + ([] : List Keyword).length + (if ([] : List Keyword).isEmpty then 0 else 1) < 30)) = true
  line : (apos.endLine == cpos.line) = true
  trees : backTo cpos (starEach [e] X.env) = [(false, eval e X.env)]
structure M2 (X : Cx) (o : Expr) (m : Str) (apos : Pos) (e f : Expr) (cpos : Pos) : Prop where
  base : attributeBase o m X.env (eval o X.env) = eval o X.env
  few : ((backTo cpos (starEach [e, f] X.env)).all (fun x => !x.1) && (backToKw cpos (keywordEach [] X.env)).all (fun x => x.1.isSome)
    && decide (([e, f] : List Expr).length + ([] : List Keyword).length + (if ([] : List Keyword).isEmpty then 0 else 1) < 30)) = true
  line : (apos.endLine == cpos.line) = true
  trees : backTo cpos (starEach [e, f] X.env) = [(false, eval e X.env), (false, eval f X.env)]

/-- a is a dict, whatever its keys -/
def IsD (H : Hp) (a : Addr) : Prop := (∃ kvs, Rd H a (.dK kvs)) ∨ ∃ kvs, Rd H a (.dT kvs)

section
variable {X : Cx} {pins : List (Addr × Obj)} {σ : St} {H : Hp} {s : Shared} {a : Addr} {y d : V} {u r : Value} {o : Option V} {A : Around} {E : Value → Shared → Prop}
end

def tDGet1 (td ty : TE) : TE := fun σ H Q => td σ H fun x H1 => ∃ a, x = .ref a ∧ IsD H1 a ∧ ty σ H1 fun y H2 => ∃ o, DGet H2 a y o ∧ Q (o.getD .non) H2
def tDGet2 (td ty tx : TE) : TE := fun σ H Q => td σ H fun x H1 => ∃ a, x = .ref a ∧ IsD H1 a ∧ ty σ H1 fun y H2 => tx σ H2 fun z H3 => ∃ o, DGet H3 a y o ∧ Q (o.getD z) H3
/-- d.pop(k): there; d.pop(k, x): there or not -/
def tDPop1 (td ty : TE) : TE := fun σ H Q => td σ H fun x H1 => ∃ a, x = .ref a ∧ IsD H1 a ∧ ty σ H1 fun y H2 => ∃ kvs k v, H2 a = some (.dK kvs) ∧ y = kV k ∧ valV kvs k = some v ∧ Q v (upd H2 a (.dK (dropK kvs k)))
def tDPop2 (td ty tx : TE) : TE := fun σ H Q => td σ H fun x H1 => ∃ a, x = .ref a ∧ IsD H1 a ∧ ty σ H1 fun y H2 => tx σ H2 fun z H3 => ∃ kvs k, H3 a = some (.dK kvs) ∧ y = kV k ∧
  (∀ v, valV kvs k = some v → Q v (upd H3 a (.dK (dropK kvs k)))) ∧ (valV kvs k = none → Q z H3)
section
variable {X : Cx} {o e f : Expr} {apos cpos : Pos} {td ty tx : TE}
end

/-! ### dict(d): a copy -/
section
variable {X : Cx} {pins : List (Addr × Obj)} {σ : St} {H : Hp} {s : Shared} {a : Addr} {kvs : List (Key × V)} {A : Around} {E : Value → Shared → Prop}
end

section
variable {X : Cx} {pins : List (Addr × Obj)} {σ : St} {H : Hp} {s : Shared} {a : Addr} {y : V} {u : Value} {A : Around} {E : Value → Shared → Prop}
end
end L2

namespace Att
open PySem PySem.W PySem.Calls PyProof.Rows

/-! ### the script -/
theorem ints_of_wellAll {P : Params} {h : Heap} : ∀ (ns : List Int) (vs : List Value), WellAll P h vs (ns.map WData.int) → IntsAre vs ns := by
  intro ns
  induction ns with
  | nil =>
    intro vs w
    rw [List.map_nil] at w
    cases w
    exact .nil
  | cons n ns ih =>
    intro vs w
    rw [List.map_cons] at w
    cases w with
    | cons a b =>
      cases a
      exact .cons _ _ (ih _ b)

theorem script_of {l : OpenLaw} {n : Nat} (hn : l.most = some n) {P : Params} {h : Heap} {args : List WData} {vals : List Value}
    (hpre : l.row.toRowW.claim.pre args = true) (hwl : WellAll P h vals args) :
    ∃ a vs ns, vals = [Value.ref a] ∧ args = [WData.list (ns.map WData.int)] ∧ h.get? a = some { cls := .type "list", data := .seq vs.toArray } ∧ IntsAre vs ns ∧ ns.length ≤ n := by
  have hsh : WShape.hasAll [] args [.list .int] = true := (pre_splitW hpre).1
  have hc : l.pre.holds [] { args := args } = true := (pre_splitW hpre).2
  obtain ⟨d, r, rfl, h1, h2⟩ := hasAllW_cons hsh
  obtain rfl := hasAllW_nil h2
  obtain ⟨xs, rfl, h3⟩ := hasW_list h1
  obtain ⟨ns, rfl⟩ := items_int h3
  have hlen : ns.length ≤ n := by
    unfold OpenLaw.pre at hc
    have h4 : (WTm.not (.lt (.lit (.int (n : Int))) (.len (.arg 0)))).holds [] { args := [.list (ns.map .int)] } = true := by
      have h4 := (holds_andW hc).1
      rw [hn] at h4
      exact h4
    have h5 := condW_of h4 (w_not (w_lt w_lit (w_len_list (w_arg rfl))))
    rw [List.length_map] at h5
    refine Nat.le_of_not_lt fun q => ?_
    have q' : (n : Int) < ((ns.length : Nat) : Int) := by omega
    first
      | (rw [decide_eq_true q'] at h5; exact absurd h5 (by decide))
      | (simp at h5; omega)
  cases hwl with
  | cons w1 w2 =>
    cases w2
    cases w1 with
    | list ho hall => exact ⟨_, _, ns, rfl, rfl, ho, ints_of_wellAll ns _ hall, hlen⟩

theorem post_true (l : OpenLaw) (args : List WData) : l.row.toRowW.claim.post args (.bool true) args = true :=
  postW_of (r := l.row.toRowW) (X := (true == true))
    (show WShape.has [] (.bool true) .bool = true by first | rfl | decide | simp [WShape.has, WShape.arms, WShape.armsAll])
    (show (WTm.eq .res (.lit (.bool true))).value [] { args := args, res := some (.bool true), after := args } = some (.bool (true == true)) from w_eq_bool (w_res rfl) w_lit) rfl

/-! ### the attachment: holds_open's last premise (the goal 'hc' behind k_head) from a wpAny of the law's body -/

/-- the same from a codeAny of the CALL (for a layer whose function contracts speak of calls) -/
theorem attach_call {l : OpenLaw} {n : Nat} {q : Program} {loose : List Str} {XP : (Str → Option Value) → Heap → Prop} {YP : World → Heap → Prop} {d : DefRec}
    (hn : l.most = some n) (hdf : d.params.defaults = [])
    (call : ∀ (w : World) (s₀ s₁ : Shared) (mg mb : Str → Option Value) (fa : Addr) (o : Obj) (pm cd doc : Value) (a : Addr) (vs : List Value) (ns : List Int),
      Ground q loose [] XP w s₀ mg mb s₁.heap → YP w s₁.heap →
      s₁.heap.get? fa = some o → o.data = .func (docDef d.name d.params d.body d.scope pm cd doc) → s₁.heap.CodeRec cd d.name → mg d.name = some (.ref fa) →
      s₁.heap.get? a = some { cls := .type "list", data := .seq vs.toArray } → IntsAre vs ns → ns.length ≤ n → s₁.gens = #[] →
      codeAny (model l.prog w) callerA (.call (.ref fa) ⟨[.ref a], []⟩) (fun r s' => r = .ok (.ret (.bool true)) ∧ OldK s₁.heap s'.heap ∧ s'.os = s₁.os ∧ AllBare s'.gens) s₁) :
    WalkO q loose XP YP l.row.toRowW d [] (fun f vs => PySem.call f vs) := by
  intro w s₀ s₁ mg mb G Y fa o pm cd doc dV kV ho hd hcd hD hmg hg args vals as hpre hlay hrd hwl hlo
  obtain rfl : dV = .none := Dflts.none hD hdf
  obtain rfl : kV = .none := Dflts.noKw hD
  obtain ⟨a, vs, ns, rfl, rfl, hobj, hints, hlen⟩ := script_of hn hpre hwl
  refine enter_call (codeAny_mono (call w s₀ s₁ mg mb fa o pm cd doc a vs ns G Y ho (fd_plain hd) hcd hmg hobj hints hlen hg) fun r s' hq => ?_)
  obtain ⟨rfl, h2, h3, h4⟩ := hq
  exact ⟨.inl ⟨.bool true, .bool true, [], rfl, fun _ => rfl, .bool true, post_true l _, fun _ => ⟨List.Pairwise.nil, fun _ hm => (nomatch hm)⟩⟩, h2, h3, h4⟩

/-! ### rules over ANY heap (no ledger) from facts about the written part K: the library's own take a ledger (News) for what they write -/
section
variable {prog : Program} {w : World} {A : Around} {E : Value → Shared → Prop} {s : Shared} {K : Frag}

/-! the whole heap as the ledger: makes every rule that writes through a ledger a rule over any heap -/
def noObjs (h : Heap) : Heap := { h with objs := #[] }
def ledger (h : Heap) (L d : Addr) : List (Addr × Obj) := (List.range h.objs.size).filterMap fun a => if a = L ∨ a = d then none else (h.get? a).map fun o => (a, o)

end
end Att

namespace L2
open PySem PySem.Spec PyProof.Rows

theorem vals_ints : ∀ {vs : List Value} {ns : List Int}, IntsAre vs ns → Vals (ns.map V.int) vs
  | _, _, .nil => .nil
  | _, _, .cons n t h => .cons ⟨t, rfl⟩ (vals_ints h)

/-- nothing is tracked but the script, known to the object (or it is an object of the module) -/
def Only (H : Hp) : Prop := ∀ b, H b = none ∨ ∃ o xs, H b = some (.frz o (.lst xs))

/-- THE HEAD: the law's promise, at the heap behind the top. F, the promise of the law's def, may use that base is part of the heap (so K.In base, base.Ns mainGlobals mg stand in Mod) -/
theorem law_call {P : Program} {w : World} {K : PySem.W.Frag} {mg mb : Str → Option Value} {CX : CXT} {k : Nat} {fa a : Addr} {fd : FuncData} {x : Str} {sp : Sp} {s₁ : Shared} {vs : List Value} {ns : List Int}
    (KX : K.In s₁.heap) (hns : s₁.heap.Ns mainGlobals mg) (hb : s₁.heap.Ns builtinsNs mb) (hbb : ∀ x : Str, x ≠ "__name__" → mb x = bootBuiltins x) (hlim : s₁.heap.NoLimit) (hg : s₁.gens = #[])
    (ha : s₁.heap.get? a = some { cls := .type "list", data := .seq vs.toArray }) (hi : IntsAre vs ns) (hl : ns.length ≤ sizeLine) (hr : Room k callerA)
    (F : ∀ base : Heap, K.In base → base.Ns mainGlobals mg → FnOk P w K mg base CX k fa fd [x] sp) (hbind : ∀ (s : Shared) (u : Value), BindsTo s fd ⟨[u], []⟩ [(x, u)])
    (hsp : ∀ H : Hp, Only H → SqL K H a (ns.map V.int) → sp [.ref a] H (fun v _ => v = .bl true) fun _ _ _ => False)
    (hCX : ∀ H e s', CX [] H s₁ (fun _ _ _ => False) e s' → False) :
    codeAny (model P w) callerA (.call (.ref fa) ⟨[.ref a], []⟩) (fun r s' => r = .ok (.ret (.bool true)) ∧ OldK s₁.heap s'.heap ∧ s'.os = s₁.os ∧ AllBare s'.gens) s₁ := by
  have rv := vals_ints hi
  have lenV := hi.length
  -- from an abstract heap in which nothing but the script may be tracked
  have core : ∀ H : Hp, Only H → SqL K H a (ns.map V.int) → HOk P w H s₁.heap → (∀ b, H b ≠ none → b = a) → (H a ≠ none → K.lookup a = none) →
      codeAny (model P w) callerA (.call (.ref fa) ⟨[.ref a], []⟩) (fun r s' => r = .ok (.ret (.bool true)) ∧ OldK s₁.heap s'.heap ∧ s'.os = s₁.os ∧ AllBare s'.gens) s₁ := by
    intro H hO hS hok hA hK
    have base_of : ∀ {b : Addr} {o : Obj}, s₁.heap.get? b = some o → H b = none → (hidT s₁.heap H).get? b = some o := fun e n => hidT_get e n
    have noA : ∀ {b : Addr} {o : Obj} {es : Array DictEntry} {ep : Nat}, s₁.heap.get? b = some o → o.data = .dict es ep → H b = none := fun {b o es ep} e d => by
      cases q : H b with
      | none => rfl
      | some u =>
        have e' : b = a := hA b (by rw [q]; simp)
        subst e'
        rw [ha] at e; cases e
        have d' : Data.seq vs.toArray _ = Data.dict es ep := d
        cases d'
    have nsK : ∀ {b : Addr} {m : Str → Option Value}, s₁.heap.Ns b m → (hidT s₁.heap H).Ns b m := fun {b m} ⟨o, es, ep, e, d, r⟩ => ⟨o, es, ep, base_of e (noA e d), d, r⟩
    have hKb : K.In (hidT s₁.heap H) := fun b o e => base_of (KX b o e) (by
      cases q : H b with
      | none => rfl
      | some u =>
        have e' : b = a := hA b (by rw [q]; simp)
        subst e'
        rw [hK (by rw [q]; simp)] at e; cases e)
    have hM : Mod K mg (hidT s₁.heap H) := ⟨hKb, nsK hns, ⟨mb, nsK hb, hbb⟩, let ⟨mc, h1, h2⟩ := hlim; ⟨mc, nsK h1, h2⟩⟩
    have e0 : Env0 P w K mg (hidT s₁.heap H) callerA [] s₁ H := ⟨rfl, hM, fun b o e => of_hidT e, Nat.le_of_eq (hidT_size _ _), trivial, fun b hb => absurd (show b ∈ ([] : List Addr) from hb) (by simp), hok, .of_eq hg⟩
    refine codeAny_mono ((F _ hKb (nsK hns)).run callerA [] s₁ H ⟨[.ref a], []⟩ [.ref a] [.ref a] _ _ hr e0 (hbind s₁ (.ref a)) (.cons rfl .nil) (hsp H hO hS)) fun r s' h => ?_
    cases r with
    | error e => exact (hCX H e s' h).elim
    | ok fl =>
      cases fl with
      | next => exact False.elim h
      | brk => exact False.elim h
      | cont => exact False.elim h
      | ret u =>
        obtain ⟨v, H', os, bare, un, hok', r', q⟩ := h
        have q' : v = .bl true := q
        subst q'
        obtain rfl : u = Value.bool true := r'
        refine ⟨rfl, OldK.of_keep fun b o e => ?_, os, bare⟩
        cases q : H b with
        | none => exact un.keep b o e q (by intro z; exact absurd (show b ∈ ([] : List Addr) from z) (by simp)) (by simp)
        | some u =>
          rcases hO b with z | ⟨ob, xs, z⟩
          · rw [q] at z; cases z
          · have z2 := un.frzs b ob _ z
            obtain ⟨e1, _⟩ := hok b _ z
            obtain ⟨e2, _⟩ := hok' b _ z2
            rw [e] at e1; cases e1
            exact e2
  cases hk : K.lookup a with
  | some o =>
    -- the script is one of the module's own objects
    have e := KX a o hk
    rw [ha] at e
    cases e
    refine core (fun _ => none) (fun _ => .inl rfl) (.inr ⟨_, vs.toArray, _, hk, rfl, rfl, rfl, by rw [List.size_toArray, lenV]; exact hl, by simpa using rv⟩) (fun b u z => by have z' : (none : Option HO) = some u := z; cases z') (fun b z => absurd rfl z) fun z => absurd rfl z
  | none =>
    refine core (fun b => if b = a then some (.frz { cls := .type "list", data := .seq vs.toArray } (.lst (ns.map V.int))) else none) (fun b => ?_) (.inl (.inr ⟨{ cls := .type "list", data := .seq vs.toArray }, if_pos rfl⟩)) (fun b u z => ?_) (fun b z => ?_) fun _ => hk
    · by_cases hb : b = a
      · exact .inr ⟨_, _, if_pos hb⟩
      · exact .inl (if_neg hb)
    · by_cases hb : b = a
      · have z' := (if_pos hb).symm.trans z
        cases z'
        subst hb
        exact ⟨ha, by rw [List.length_map]; exact hl, vs, _, rv, ha⟩
      · have z' := (if_neg hb).symm.trans z
        cases z'
    · by_cases hb : b = a
      · exact hb
      · exact absurd (if_neg hb) z
end L2

namespace L2
open PySem PySem.Spec PyProof.Rows

abbrev KOf {K : PySem.W.Frag} {h : Heap} (_ : K.In h) : PySem.W.Frag := K

/-- the goal that k_head leaves (case hc), from the law's promise. F gives the function object fd (K's own) once, then the promise over every base -/
theorem walk_of {l : PySem.W.OpenLaw} {n k : Nat} {q : Program} {loose : List Str} {XP : (Str → Option Value) → Heap → Prop} {YP : World → Heap → Prop} {d : DefRec} {K : Params → PySem.W.Frag} {CX : World → CXT} {sp : World → Sp} {x : Str}
    (hn : l.most = some n) (hn2 : n ≤ sizeLine) (hdf : d.params.defaults = []) (hr : Room k callerA)
    (hY : ∀ (w : World) (h : Heap), YP w h → (K w.params).In h)
    (F : ∀ (w : World) (mg : Str → Option Value) (fa : Addr) (h : Heap), (K w.params).In h → h.Ns mainGlobals mg → mg d.name = some (.ref fa) →
      ∃ fd : FuncData, (∀ (s : Shared) (u : Value), BindsTo s fd ⟨[u], []⟩ [(x, u)]) ∧
        ∀ base : Heap, (K w.params).In base → base.Ns mainGlobals mg → FnOk l.prog w (K w.params) mg base (CX w) k fa fd [x] (sp w))
    (hsp : ∀ (w : World) (H : Hp) (a : Addr) (ns : List Int), ns.length ≤ n → Only H → SqL (K w.params) H a (ns.map V.int) → sp w [.ref a] H (fun v _ => v = .bl true) fun _ _ _ => False)
    (hCX : ∀ (w : World) (H : Hp) (s : Shared) (e : Value) (s' : Shared), CX w [] H s (fun _ _ _ => False) e s' → False) :
    PySem.W.WalkO q loose XP YP l.row.toRowW d [] (fun f vs => PySem.call f vs) := by
  refine Att.attach_call hn hdf fun w s₀ s₁ mg mb fa o pm cd doc a vs ns G Y ho hd hcd hmg hobj hints hlen hg => ?_
  have KX := hY w _ Y
  obtain ⟨fd, hb, hF⟩ := F w mg fa _ KX G.T.g hmg
  exact law_call KX G.T.g G.T.b G.T.builtins G.T.nolimit hg hobj hints (Nat.le_trans hlen hn2) hr hF hb (fun H hO hS => hsp w H a ns hlen hO hS) fun H e s' => hCX w H s₁ e s'
end L2

/- THE LAST THEOREM (shape; LID, My.* are yours):
   My.Adr: a structure of the addresses that your layer names (classes, functions); My.Txt K t: a structure (Prop) of the equations over K;
   My.txt_mk : {K} {implicit addresses ..} (e1 : nsIn K mainGlobals "law" = some (some (.ref f))) (e2 : K.lookup f = some ⟨oc, od, .func (fnOf "law" "law" params body scope dV kV doc pm an cdv ct), sl⟩) (e3 : codeIn K cdv "law" = true) .. : ∃ t, My.Txt K t

set_option maxRecDepth 100000 in
set_option maxHeartbeats 0 in
theorem PySem.Challenge.cw_LID_holds : PySem.Challenge.rw_LID.Holds := by
  w_on; o_law; k_head; (case hw => w_witness2)
  k_fill
  refine L2.walk_of (l := PySem.Challenge.rw_LID) (n := 63) (k := 40) (x := "script") (CX := fun w => ..) (sp := fun _ => My.sp_law) rfl (by decide) rfl ⟨rfl, by decide, by decide⟩ (fun w h Y => PySem.W.kIn_of Y) ?F ?S ?C
  case F =>
    intro w mg fa h KX G hmg
    have T : ∃ t, My.Txt (L2.KOf KX) t := by
      dsimp only [L2.KOf]                          -- K must stand as «<heap const> w.params» for k_is
      refine' My.txt_mk ?e1 ?e2 ?e3 ..
      (case e1 => PySem.W.k_is)                    -- in the order: a name -> its address -> its object -> its parts
      (case e2 => PySem.W.k_is)
      ..
    obtain ⟨t, T⟩ := T
    have e0 := hmg.symm.trans (PySem.W.mg_of KX G T.law)
    cases e0                                       -- fa is the law's own address
    exact ⟨_, fun s u => .of_eq rfl, fun base kb nb => My.law_fn T kb nb⟩     -- if «.of_eq rfl» comes too early: refine' ⟨_, ?b, fun base kb nb => My.law_fn T kb nb⟩; exact fun s u => .of_eq rfl
  case S => exact fun w H a ns hl hO hS => ..
  case C => exact ..
(the tactic k_is has no namespace: write k_is) -/

/-! SHORT WORDS over the layer: a def of the text, its body, what a loop and a test want. -/
namespace L2
open PySem PySem.Spec PyProof.Rows

/-! ### the text by places -/
/-- the j-th statement of a class's body -/
def inClass (s : Stmt) (j : Nat) : Stmt := match s with
  | .ClassDef _ _ _ body _ _ _ _ _ _ _ => body.getD j (.Pass ⟨0, 0, 0, 0⟩)
  | _ => .Pass ⟨0, 0, 0, 0⟩
def defArgs (s : Stmt) : Arguments := match s with
  | .FunctionDef _ a _ _ _ _ _ _ _ _ => a
  | _ => { posonlyargs := [], args := [], vararg := none, kwonlyargs := [], kw_defaults := [], kwarg := none, defaults := [] }
def defBody (s : Stmt) : List Stmt := match s with
  | .FunctionDef _ _ b _ _ _ _ _ _ _ => b
  | _ => []
def defScope (s : Stmt) : Scope := match s with
  | .FunctionDef _ _ _ _ _ _ sc _ _ _ => sc
  | _ => { kind := .function, names := [], isGenerator := false, isCoroutine := false }

/-! ### no exception leaves a def -/
abbrev CX0 : CXT := fun _ _ _ _ _ _ => False
abbrev E0 : XK := fun _ _ _ => False
theorem pass0 {X : Cx} : Passes CX0 X E0 := fun _ _ _ _ _ _ _ h => h.elim

/-! ### a def (or method) of the text as it stands behind the top -/
structure Fun (K : PySem.W.Frag) (x qual : Str) (st : Stmt) (f : Addr) (fd : FuncData) : Prop where
  ex : ∃ (oc : Value) (od : Option Addr) (kV doc pm : Value) (an : Option Addr) (cdv ct : Value) (osl : Array (Option Value)),
    fd = PySem.W.fnOf x qual (defArgs st) (defBody st) (defScope st) .none kV doc pm an cdv ct ∧ K.lookup f = some ⟨oc, od, .func fd, osl⟩ ∧ PySem.W.codeIn K cdv qual = true
  kp : PySem.W.keepIn K (.ref f) = true
section
variable {P : Program} {w : World} {K : PySem.W.Frag} {mg : Str → Option Value} {base : Heap}
/-- THE RULE for a def: its body as a term of rules, and the reading of that term -/
theorem Fun.ok {x qual : Str} {st : Stmt} {f : Addr} {fd : FuncData} {N ps : List Str} {k : Nat} {sp : Sp} (F : Fun K x qual st f fd) (S : FnScope N ps (defScope st)) (len : ∀ vs H Q E, sp vs H Q E → vs.length = ps.length)
    (hbody : ∀ (cdv : Value) (A : Around) (outer : List Env) (s : Shared) (H : Hp) (vs : List V) (Q : VK) (E : XK), Room k (A.deeper (envOfC qual (defScope st) s.heap.objs.size f cdv)) → sp vs H Q E →
      ∃ t, PSs (cxOf CX0 P w K mg base N qual (defScope st) f cdv A outer s H E).nox (defBody st) t ∧ t { nx := fun _ H' => Q .non H', rt := Q } (start N vs) H) : FnOk P w K mg base CX0 (k + 1) f fd ps sp := by
  obtain ⟨oc, od, kV, doc, pm, an, cdv, ct, osl, rfl, lk, hcd⟩ := F.ex
  refine fn_of lk hcd S len fun A outer s H vs Q E hr hsp => ?_
  obtain ⟨t, h, q⟩ := hbody cdv A outer s H vs Q E hr hsp
  exact ⟨t, h.nox, q⟩
/-- how its arguments bind (no defaults): h is «fun _ _ _ _ _ _ us hl => match us, hl with | [_, _], _ => rfl», one _ a parameter -/
theorem Fun.binds {x qual : Str} {st : Stmt} {f : Addr} {fd : FuncData} {ps : List Str} (F : Fun K x qual st f fd)
    (h : ∀ (kV doc pm : Value) (an : Option Addr) (cdv ct : Value) (us : List Value), us.length = ps.length → bindArgs (PySem.W.fnOf x qual (defArgs st) (defBody st) (defScope st) .none kV doc pm an cdv ct) ⟨us, []⟩ = pure (ps.zip us)) : Binds K fd ps [] := by
  obtain ⟨oc, od, kV, doc, pm, an, cdv, ct, osl, rfl, lk, hcd⟩ := F.ex
  exact .all (h kV doc pm an cdv ct)
theorem fun_mk {x qual : Str} {st : Stmt} {f : Addr} {oc : Value} {od an : Option Addr} {osl : Array (Option Value)} {kV doc pm cdv ct : Value} (l : K.lookup f = some ⟨oc, od, .func (PySem.W.fnOf x qual (defArgs st) (defBody st) (defScope st) .none kV doc pm an cdv ct), osl⟩)
    (c : PySem.W.codeIn K cdv qual = true) (k : PySem.W.keepIn K (.ref f) = true) : Fun K x qual st f (PySem.W.fnOf x qual (defArgs st) (defBody st) (defScope st) .none kV doc pm an cdv ct) := ⟨⟨oc, od, kV, doc, pm, an, cdv, ct, osl, rfl, l, c⟩, k⟩
end
theorem small1000 {n : Nat} (h : n ≤ 1000) : n < sizeLine := Nat.lt_of_le_of_lt h (by decide)

/-! ### expressions in short: the name that stands in the i-th slot -/
section
variable {X : Cx}
theorem pv (i : Nat) {x : Str} {pos : Pos} (hN : X.N[i]? = some x := by rfl) (hv : Vis X.env.scope x := by first | exact Or.inl rfl | exact Or.inr (Or.inl rfl) | exact Or.inr (Or.inr rfl)) (hd : (x == ("__debug__" : Str)) = false := by decide)
    (hcd : (x == ("__classdict__" : Str)) = false := by decide) : PE X (.Name x pos) (tVar i) := pe_var hN hv hd hcd
end

/-! ### tests -/
theorem iteF {A B : Prop} (h : B) : if false = true then A else B := by
  rw [if_neg Bool.false_ne_true]
  exact h
theorem iteT {A B : Prop} (h : A) : if true = true then A else B := by
  rw [if_pos rfl]
  exact h
theorem ite2 {c A B : Prop} [Decidable c] (h1 : c → A) (h2 : ¬ c → B) : if c then A else B := by
  by_cases h : c
  · rw [if_pos h]
    exact h1 h
  · rw [if_neg h]
    exact h2 h

/-! ### heaps -/
/-- all that was tracked is as it was -/
def Same (H H' : Hp) : Prop := ∀ b o, H b = some o → H' b = some o
theorem Same.refl (H : Hp) : Same H H := fun _ _ h => h
theorem Same.trans {H H1 H2 : Hp} (a : Same H H1) (b : Same H1 H2) : Same H H2 := fun c o h => b c o (a c o h)
theorem Same.free {H H' : Hp} (e : Same H H') {l : Addr} (h : H' l = Option.none) : H l = Option.none := by
  cases q : H l with
  | none => rfl
  | some o =>
    rw [e l o q] at h
    cases h
theorem Same.seq {K : PySem.W.Frag} {H H' : Hp} {a : Addr} {xs : List V} (e : Same H H') (h : SqL K H a xs) : SqL K H' a xs := by
  rcases h with (h | ⟨o, h⟩) | h
  · exact .inl (.inl (e _ _ h))
  · exact .inl (.inr ⟨o, e _ _ h⟩)
  · exact .inr h

/-! ### a dict's pairs: keys that differ -/
section
variable {κ : Type} [DecidableEq κ]
end
end L2

set_option Elab.async false
set_option linter.all false
set_option maxRecDepth 100000
/-! own rules over the layer: iterators that yield a known list, texts walked, comprehensions -/
namespace L2
open PySem PySem.Spec PyProof.Rows

theorem Same.upd {H : Hp} {a : Addr} {o : HO} (h : H a = none) : Same H (upd H a o) := fun b u e => by rw [upd_ne (ne_of_none e h)]; exact e

/-- J yields the items of xs, one by one, over every heap that is Ok -/
structure ItIs (J : It) (Ok : Hp → Prop) (xs : List V) : Prop where
  go : ∀ i H, Ok H → i < xs.length → J.go i H
  yld : ∀ i H x H', Ok H → i < xs.length → J.yld i H x H' → H' = H ∧ xs[i]? = some x
  stop : ∀ H, Ok H → J.stop xs.length H
theorem itIs_list (K : PySem.W.Frag) (a : Addr) (xs : List V) : ItIs (Itl K a) (fun H => SqL K H a xs) xs :=
  ⟨fun i H q hi => ⟨xs, xs[i], q, by simp [hi]⟩, fun i H x H' q _ y => ⟨y.1, y.2 xs q⟩, fun H q => ⟨xs, q, Nat.le_refl _⟩⟩
/-- n values, the i-th is val i -/
def Itf (n : Nat) (val : Nat → V) : It := ⟨fun i _ => i < n, fun i H x H' => H' = H ∧ x = val i, fun i _ => n ≤ i⟩
theorem itIs_range (lo : Int) (n : Nat) : ItIs (Itr lo n) (fun _ => True) ((List.range n).map fun i => V.int (lo + (i : Nat))) := by
  refine ⟨fun i H _ hi => (show i < n by simpa using hi), fun i H x H' _ hi y => ⟨y.1, ?_⟩, fun H _ => ?_⟩
  · have hi' : i < n := by simpa using hi
    rw [y.2]
    simp [hi']
  · show n ≤ _
    simp

abbrev noTup (nm : String) : Prop := ["enumerate", "zip", "dict_itemiterator", "dict_reverseitemiterator", "odict_iterator", "itertools.zip_longest", "itertools.pairwise"].contains nm = false

/-! ### a text walked sign by sign -/
def signV (z : Str) (i : Nat) : V := .str ⟨#[z.cps.getD i 0]⟩
def charsV (z : Str) : List V := z.cps.toList.map fun c => V.str ⟨#[c]⟩
def iStr (tl : TE) : TI := fun σ H R => tl σ H fun x H1 => ∃ z, x = .str z ∧ R (Itf z.cps.size (signV z)) H1
section
variable {X : Cx} {tg : Expr}
end

/-! ### a comprehension's block -/
theorem Un.sameBut {fs ex : List Addr} {H H' : Hp} {h h1 h2 : Heap} {L : Addr} (u : Un fs ex H H' h h1) (hs : ∀ b, b ≠ L → h2.get? b = h1.get? b) (hL : h.objs.size ≤ L) : Un fs ex H H' h h2 :=
  have ne : ∀ {b : Addr} {o : Obj}, h.get? b = some o → b ≠ L := fun e => Nat.ne_of_lt (Nat.lt_of_lt_of_le (Heap.lt_size e) hL)
  ⟨fun b o e n h1 h2 => (hs b (ne e)).trans (u.keep b o e n h1 h2), fun b o e n h1 h2 => let ⟨sl, q⟩ := u.slot b o e n h1 h2; ⟨sl, (hs b (ne e)).trans q⟩, u.free,
    fun b o e hx => let ⟨o', q⟩ := u.there b o e hx; ⟨o', (hs b (ne e)).trans q⟩, u.tups, u.frzs, u.tbls⟩

/-- the free names of the block are cells of the frame around it -/
def FreeIn (scope : Scope) (env : Env) : Prop := ∀ y ∈ scope.names, y.2 = .free → env.kindOf y.1 = some .cell ∨ env.kindOf y.1 = some .free

theorem closure_ok {env : Env} : ∀ {names : List (Str × NameKind)} (acc : List (Str × Addr)), (∀ y ∈ names, y.2 = .free → ∃ c, env.cells.lookup y.1 = some c) → (∀ y c, acc.lookup y = some c → env.cells.lookup y = some c) →
    ∃ cl : List (Str × Addr), (forIn names acc (fun (x : Str × NameKind) cs => (match x with | (name, kind) => if kind == .free then do let c ← cellOf env name; pure (ForInStep.yield ((name, c) :: cs)) else pure (ForInStep.yield cs) : Sem (ForInStep (List (Str × Addr)))))) = pure cl ∧
      (∀ y c, cl.lookup y = some c → env.cells.lookup y = some c) ∧ (∀ y c, acc.lookup y = some c → ∃ c', cl.lookup y = some c') ∧ ∀ y ∈ names, y.2 = .free → ∃ c, cl.lookup y.1 = some c
  | [], acc, _, ha => ⟨acc, rfl, ha, fun y c e => ⟨c, e⟩, fun _ h => nomatch h⟩
  | (n, k) :: r, acc, hf, ha => by
    rw [List.forIn_cons]
    by_cases hk : k = .free
    · obtain ⟨c, hc⟩ := hf (n, k) List.mem_cons_self hk
      have e1 : (k == NameKind.free) = true := by rw [hk]; rfl
      obtain ⟨cl, h1, h2, h3, h4⟩ := closure_ok (env := env) (names := r) ((n, c) :: acc) (fun y hy => hf y (List.mem_cons_of_mem _ hy)) (fun y c' e => by
        rw [List.lookup_cons] at e
        cases q : y == n with
        | true =>
          rw [q] at e
          have : c = c' := Option.some.inj e
          subst this
          have : y = n := eq_of_beq q
          subst this
          exact hc
        | false =>
          rw [q] at e
          exact ha y c' e)
      refine ⟨cl, ?_, h2, fun y c' e => ?_, fun y hy hyf => ?_⟩
      · rw [← h1]
        simp only [e1, if_true]
        have e2 : cellOf env n = pure c := by unfold cellOf; rw [hc]
        rw [e2]
        rfl
      · by_cases q : y = n
        · subst q
          exact h3 y c (by simp [List.lookup_cons])
        · refine h3 y c' ?_
          have : (y == n) = false := beq_eq_false_iff_ne.mpr q
          rw [List.lookup_cons, this]
          exact e
      · rcases List.mem_cons.mp hy with rfl | hy
        · exact h3 n c (by simp [List.lookup_cons])
        · exact h4 y hy hyf
    · have e1 : (k == NameKind.free) = false := by simpa using hk
      obtain ⟨cl, h1, h2, h3, h4⟩ := closure_ok (env := env) (names := r) acc (fun y hy => hf y (List.mem_cons_of_mem _ hy)) ha
      refine ⟨cl, ?_, h2, h3, fun y hy hyf => ?_⟩
      · rw [← h1]
        simp only [e1, Bool.false_eq_true, if_false]
        rfl
      · rcases List.mem_cons.mp hy with rfl | hy
        · exact absurd hyf hk
        · exact h4 y hy hyf
theorem closureFor_ok {scope : Scope} {env : Env} (hf : ∀ y ∈ scope.names, y.2 = .free → ∃ c, env.cells.lookup y.1 = some c) :
    ∃ cl, closureFor scope env = pure cl ∧ (∀ y c, cl.lookup y = some c → env.cells.lookup y = some c) ∧ ∀ y ∈ scope.names, y.2 = .free → ∃ c, cl.lookup y.1 = some c := by
  obtain ⟨cl, h1, h2, _, h4⟩ := closure_ok (env := env) (names := scope.names) [] hf (fun y c e => by simp at e)
  refine ⟨cl, ?_, h2, h4⟩
  simp only [closureFor]
  first
    | (rw [h1]; rfl)
    | (have h1' := h1; simp only at h1' ⊢; rw [h1']; rfl)
    | (refine Eq.trans (congrArg (fun m => m >>= fun cs => pure cs) ?_) ?_; exact pure cl; exact h1; rfl)

theorem relabel_free {scope : Scope} {env : Env} (hcell : ∀ y ∈ scope.names, y.2 ≠ .cell) {x : Str} (h : (relabel scope env).names.lookup x = some .cell ∨ (relabel scope env).names.lookup x = some .free) : ∃ k, (x, k) ∈ scope.names ∧ k = NameKind.free := by
  unfold relabel at h
  dsimp only at h
  have key : ∀ (names : List (Str × NameKind)), (∀ y ∈ names, y.2 ≠ .cell) →
      ((names.map fun (n, k) => if (k == NameKind.free && env.scope.kind == .function && env.kindOf n == some .cell) then (n, NameKind.cell) else (n, k)).lookup x = some .cell ∨
       (names.map fun (n, k) => if (k == NameKind.free && env.scope.kind == .function && env.kindOf n == some .cell) then (n, NameKind.cell) else (n, k)).lookup x = some .free) → ∃ k, (x, k) ∈ names ∧ k = NameKind.free := by
    intro names
    induction names with
    | nil => intro _ h; simp at h
    | cons y r ih =>
      obtain ⟨n, k⟩ := y
      intro hc h
      have hr := ih (fun y hy => hc y (List.mem_cons_of_mem _ hy))
      rw [List.map_cons] at h
      dsimp only at h
      by_cases hx : x = n
      · subst hx
        by_cases hk : k = .free
        · exact ⟨k, List.mem_cons_self, hk⟩
        · have e1 : (k == NameKind.free) = false := by simpa using hk
          simp only [e1, Bool.false_and, Bool.false_eq_true, if_false, List.lookup_cons, beq_self_eq_true] at h
          rcases h with h | h
          · exact absurd (Option.some.inj h) (hc (x, k) List.mem_cons_self)
          · exact absurd (Option.some.inj h) hk
      · have hb : (x == n) = false := beq_eq_false_iff_ne.mpr hx
        have h' : ∀ kk : NameKind, List.lookup x ((if (k == NameKind.free && env.scope.kind == .function && env.kindOf n == some .cell) = true then (n, NameKind.cell) else (n, k)) :: (r.map fun (n, k) => if (k == NameKind.free && env.scope.kind == .function && env.kindOf n == some .cell) then (n, NameKind.cell) else (n, k))) = some kk →
            (r.map fun (n, k) => if (k == NameKind.free && env.scope.kind == .function && env.kindOf n == some .cell) then (n, NameKind.cell) else (n, k)).lookup x = some kk := by
          intro kk e
          split at e
          · simpa only [List.lookup_cons, hb] using e
          · simpa only [List.lookup_cons, hb] using e
        obtain ⟨k', h1, h2⟩ := hr (h.imp (h' _) (h' _))
        exact ⟨k', List.mem_cons_of_mem _ h1, h2⟩
  exact key scope.names hcell h

/-- the context of a comprehension's block -/
def compCx (X : Cx) (scope : Scope) (N : List Str) (cl : List (Str × Addr)) (L : Addr) (s : Shared) (H : Hp) (ex : List Addr) (pn : List (Addr × Obj)) : Cx where
  prog := X.prog
  w := X.w
  K := X.K
  mg := X.mg
  base := X.base
  A := X.A
  N := N
  s₀ := s
  H₀ := H
  env := compEnvC scope cl L X.env
  outer := X.stack
  stack := X.stack
  ex := ex
  fn := fun _ => false
  calm := X.calm
  pn := pn
  xe := fun _ _ => False

/-- tests of a comprehension -/
def PTs (X : Cx) (ifs : List Expr) (t : TT) : Prop :=
  ∀ (pins : List (Addr × Obj)) (s : Shared) (σ : St) (H : Hp) (Q : Bool → Hp → Prop), Inv X pins σ H s → t σ H Q →
    wpAny (model X.prog X.w) X.A (forIn ifs true fun c r => if r = true then do let ok ← isTrue c X.env (eval c X.env); pure (ForInStep.yield ok) else pure (ForInStep.yield r)) (TP X pins σ Q) X.xe s
def tYes : TT := fun _ H Q => Q true H
theorem pts_nil {X : Cx} : PTs X [] tYes := fun _ _ _ H _ I h => wpAny_tests_nil ⟨H, I, h⟩
theorem pts_one {X : Cx} {c : Expr} {t : TT} (h : PT X c t) : PTs X [c] t := fun pins s σ H Q I hw => wpAny_tests_one (h pins s σ H Q I hw)

section
variable {prog : Program} {w : World} {A : Around} {E : Value → Shared → Prop} {R : Result → Shared → Prop} {s : Shared}
theorem comp_loop {elt target iter : Expr} {ifs : List Expr} {scope : Scope} {pos : Pos} {it acc : Value} {env : Env} (I : Nat → Shared → Prop)
    (turn : ∀ n s, I n s → wpAny (model prog w) A (pyNext it) (fun r s₁ => match r with
      | none => R (.ok .next) s₁
      | some v => wpAny (model prog w) A (letOwnedTupleGo target it v) (fun _ s₁' => wpAny (model prog w) A (assign target env v) (fun _ s₂ =>
          wpAny (model prog w) A (forIn ifs true fun c r => if r = true then do let ok ← isTrue c env (eval c env); pure (ForInStep.yield ok) else pure (ForInStep.yield r)) (fun ok s₃ =>
            if ok = true then wpAny (model prog w) A (eval elt env) (fun x s₄ =>
              wpAny (model prog w) A (call (.builtin "list.append") [acc, x]) (fun _ s₅ => ∃ m, m < n ∧ I m s₅) (notedBy (model prog w) A env fun e s' => R (.error e) s') s₄) (notedBy (model prog w) A env fun e s' => R (.error e) s') s₃
            else ∃ m, m < n ∧ I m s₃) (notedBy (model prog w) A env fun e s' => R (.error e) s') s₂) (notedBy (model prog w) A env fun e s' => R (.error e) s') s₁') (notedBy (model prog w) A env fun e s' => R (.error e) s') s₁) (notedBy (model prog w) A env fun e s' => R (.error e) s') s)
    (n : Nat) (h : I n s) :
    codeAny (model prog w) A (.compLoop (.ListComp elt [⟨target, iter, ifs, 0⟩] scope pos) 0 it acc env) R s := by
  refine codeAny_loop rfl I (fun n s hI => ?_) n h
  show wpAny _ A ((compTurn (.ListComp elt [⟨target, iter, ifs, 0⟩] scope pos) 0 it acc env).onRaise (fun x => do noteFrame x env; theTreesLotGoes x)) _ _ s
  refine wpAny_noted ?_
  rw [compTurn_list]
  refine wpAny_bind (wpAny_standAt (wpAny_bind (wpAny_mono (turn n s hI) (fun r s₁ h₁ => ?_) fun _ _ h' => h')))
  cases r with
  | none => exact wpAny_pure h₁
  | some v =>
    refine wpAny_bind (wpAny_mono h₁ (fun _ s₁' h₁' => ?_) fun _ _ h' => h')
    refine wpAny_bind (wpAny_mono h₁' (fun _ s₂ h₂ => wpAny_bind (wpAny_mono h₂ (fun ok s₃ h₃ => ?_) fun _ _ h' => h')) fun _ _ h' => h')
    cases ok with
    | false => exact wpAny_pure ⟨rfl, h₃⟩
    | true =>
      exact wpAny_bind (wpAny_bind (wpAny_mono h₃ (fun x s₄ h₄ => wpAny_bind (wpAny_mono h₄ (fun _ s₅ h₅ => wpAny_pure (wpAny_pure ⟨rfl, h₅⟩)) fun _ _ h' => h')) fun _ _ h' => h'))
end

/-- what the block wants, turn by turn: W by the turn, a measure, the items so far, the heap -/
def CompW (J : It) (l : Addr) (σf : St) (tt : TT) (te : TE) (H : Hp) (Q : Hp → Prop) : Prop :=
  ∃ W : Nat → Nat → List V → Hp → Prop, (∃ m, W 0 m [] (upd H l (.lst []))) ∧ ∀ i m ys H2, W i m ys H2 → H2 l = some (.lst ys) ∧
    ((J.stop i H2 ∧ Q H2) ∨ (J.go i H2 ∧ ys.length < sizeLine ∧ ∀ x H3, J.yld i H2 x H3 → tt (some x :: σf) H3 fun b H4 =>
      if b = true then te (some x :: σf) H4 fun y H5 => H5 l = some (.lst ys) ∧ ∃ m', m' < m ∧ W (i + 1) m' (ys ++ [y]) (upd H5 l (.lst (ys ++ [y])))
      else ∃ m', m' < m ∧ W (i + 1) m' ys H4))
/-- the values of the free names -/
def pick (σ : St) (ix : List Nat) : St := ix.map fun i => (σ[i]?).join
def tComp (wi : TI) (ix : List Nat) (tt : TT) (te : TE) : TE := fun σ H Q => wi σ H fun J H1 => ∀ l, H1 l = none → CompW J l (pick σ ix) tt te H1 (fun H2 => Q (.ref l) H2)
def tCompS (wi : TI) (ix : List Nat) (tt : TT) (te : TE) (i : Nat) : TS := fun D σ H => wi σ H fun J H1 => ∀ l, H1 l = none → CompW J l (pick σ ix) tt te H1 (fun H2 => D.nx (σ.set i (some (.ref l))) H2)

/-- what the text must show of a block: x its variable, ys its free names, their slots ix -/
structure BlockOk (X : Cx) (scope : Scope) (x : Str) (ys : List Str) (ix : List Nat) : Prop where
  kind : scope.kind = .function
  nocell : ∀ y ∈ scope.names, y.2 ≠ .cell
  names : ∀ y ∈ scope.names, y.2 = .local → scope.names.lookup y.1 = some .local
  var : scope.names.lookup x = some .local
  free : FreeIn scope X.env
  nd : (x :: ys).Nodup
  len : ix.length = ys.length
  slots : ∀ (j : Nat) (y : Str), ys[j]? = some y → ∃ i : Nat, ix[j]? = some i ∧ X.N[i]? = some y ∧ (X.env.scope.names.lookup y = some .cell ∨ X.env.scope.names.lookup y = some .free) ∧ scope.names.lookup y = some .free

theorem relabel_lookup {scope : Scope} {env : Env} {x : Str} (h : scope.names.lookup x = some .free) : (relabel scope env).names.lookup x = some .cell ∨ (relabel scope env).names.lookup x = some .free := by
  unfold relabel
  dsimp only
  have key : ∀ (names : List (Str × NameKind)), names.lookup x = some .free →
      ((names.map fun (n, k) => if (k == NameKind.free && env.scope.kind == .function && env.kindOf n == some .cell) then (n, NameKind.cell) else (n, k)).lookup x = some .cell ∨
       (names.map fun (n, k) => if (k == NameKind.free && env.scope.kind == .function && env.kindOf n == some .cell) then (n, NameKind.cell) else (n, k)).lookup x = some .free) := by
    intro names
    induction names with
    | nil => intro h; simp at h
    | cons y r ih =>
      obtain ⟨n, k⟩ := y
      intro h
      rw [List.map_cons]
      dsimp only
      by_cases hx : x = n
      · subst hx
        have hk : k = .free := by
          rw [List.lookup_cons] at h
          simp only [beq_self_eq_true] at h
          exact Option.some.inj h
        subst hk
        split
        · left; simp [List.lookup_cons]
        · right; simp [List.lookup_cons]
      · have hb : (x == n) = false := beq_eq_false_iff_ne.mpr hx
        rw [List.lookup_cons, hb] at h
        have q := ih h
        split
        · simpa only [List.lookup_cons, hb] using q
        · simpa only [List.lookup_cons, hb] using q
  exact key scope.names h

section
variable {X : Cx} {pins : List (Addr × Obj)} {σ : St} {H : Hp} {s₂ : Shared} {scope : Scope} {x : Str} {ys : List Str} {ix : List Nat} {cl : List (Str × Addr)} {fp : List Addr} {L : Addr}
theorem comp_ok (B : BlockOk X scope x ys ix) (I : Inv X pins σ H s₂) (hf : ∀ b ∈ fp, FpOk X pins H b) (hfl : ∀ b ∈ fp, b < s₂.heap.objs.size) (hL : s₂.heap.objs.size ≤ L)
    (hcl : ∀ y c, cl.lookup y = some c → X.env.cells.lookup y = some c) (hcf : ∀ y ∈ scope.names, y.2 = .free → ∃ c, cl.lookup y.1 = some c) : (compCx X scope (x :: ys) cl L s₂ H fp (X.pn ++ pins)).Ok where
  mod := I.ok.mod
  kind := B.kind
  glob := I.ok.glob
  blt := I.ok.blt
  above := hL
  inj := fun a b c h1 h2 => I.ok.inj a b c (hcl a c h1) (hcl b c h2)
  has := fun a ha => by
    obtain ⟨k, hm, hk⟩ := relabel_free (env := X.env) B.nocell (x := a) ha
    exact hcf (a, k) hm hk
  cab := fun _ _ h => nomatch h
  hd := I.ok.hd
  frames := I.ok.frames
  stk := .inl rfl
  exf := fun b hb => ⟨Nat.ne_of_lt (Nat.lt_of_lt_of_le (hfl b hb) hL), fun y c h => (hf b hb).2.2.2.2.1 y c (hcl y c h)⟩
  bs := I.bs
  bsz := Nat.le_trans I.ok.bsz I.sz
  noex := fun b o e hb => by
    rcases (hf b hb).2.2.2.1 with z | z
    · exact I.ok.noex b o e z
    · exact absurd (Nat.lt_of_lt_of_le (Nat.lt_of_lt_of_le (Heap.lt_size e) I.ok.bsz) z) (Nat.lt_irrefl _)
  exfs := fun b hb hm => by
    rcases List.mem_cons.mp (I.stkSub b hm) with z | z
    · exact (hf b hb).2.1 z
    · exact (hf b hb).2.2.1 z
  funs := I.stack
  frf := I.stkFree

theorem comp_inv {h₁ : Heap} {tk : Nat} {m₁ : Str → Option Value} {l : Addr} {n₀ : Nat} (B : BlockOk X scope x ys ix) (I : Inv X pins σ H s₂) (hf : ∀ b ∈ fp, FpOk X pins H b) (hfl : ∀ b ∈ fp, b < s₂.heap.objs.size) (hL : s₂.heap.objs.size ≤ L)
    (hcl : ∀ y c, cl.lookup y = some c → X.env.cells.lookup y = some c) (hcf : ∀ y ∈ scope.names, y.2 = .free → ∃ c, cl.lookup y.1 = some c)
    (kp : ∀ b o, s₂.heap.get? b = some o → h₁.get? b = some o) (hns : h₁.Ns L m₁) (hl : l = s₂.heap.objs.size) (hlL : l ≠ L) (ho : h₁.get? l = some { cls := .type "list", data := .seq ([] : List Value).toArray n₀ }) :
    Inv (compCx X scope (x :: ys) cl L s₂ H fp (X.pn ++ pins)) [] (none :: pick σ ix) (upd H l (.lst [])) { s₂ with heap := h₁, toks := tk } := by
  subst hl
  have fr := I.hok.fresh (Nat.le_refl s₂.heap.objs.size)
  refine ⟨comp_ok B I hf hfl hL hcl hcf, rfl, I.bare, Un.laid kp (Nat.le_refl _) fr, ⟨m₁, hns, fun i y v e1 e2 e3 => ?_⟩, fun y c e => ?_, ?_, fun y c e => ?_, fun p hp => ?_, I.hok.laid kp (Nat.le_refl _) ⟨Nat.zero_le _, [], n₀, .nil, ho⟩, ?_⟩
  · cases i with
    | zero => simp at e2
    | succ j =>
      have e1' : ys[j]? = some y := by simpa [compCx] using e1
      obtain ⟨i, hi, hN, hk, hfree⟩ := B.slots j y e1'
      have e2' : (σ[i]?).join = some v := by
        have : (pick σ ix)[j]? = some (some v) := by simpa using e2
        unfold pick at this
        rw [List.getElem?_map, hi] at this
        exact Option.some.inj this
      have e2'' : σ[i]? = some (some v) := by
        cases q : σ[i]? with
        | none => rw [q] at e2'; cases e2'
        | some z => rw [q] at e2'; rw [show z = some v from e2']
      obtain ⟨m, hn, hlk⟩ := I.loc
      have vis : Vis X.env.scope y := .inr (hk.imp id id)
      obtain ⟨u, r, l⟩ := hlk i y v hN e2'' vis
      refine ⟨u, r, .inr ⟨relabel_lookup hfree, ?_⟩⟩
      rcases l with ⟨k, _⟩ | ⟨_, c, hc, hcell⟩
      · have k' : X.env.scope.names.lookup y = some .local := k
        rcases hk with z | z
        · rw [z] at k'; cases k'
        · rw [z] at k'; cases k'
      · obtain ⟨c', hc'⟩ := hcf (y, .free) (PySem.mem_of_lookup hfree) rfl
        have := hcl y c' hc'
        rw [hc] at this
        cases this
        obtain ⟨o, q, d⟩ := hcell
        exact ⟨c, hc', o, kp c o q, d⟩
  · obtain ⟨v, o, q, d⟩ := I.cell y c (hcl y c e)
    exact ⟨v, o, kp c o q, d⟩
  · show upd H s₂.heap.objs.size (.lst []) L = none
    rw [upd_ne (Ne.symm hlL)]
    exact I.hok.fresh hL
  · obtain ⟨v, o, q, d⟩ := I.cell y c (hcl y c e)
    rw [upd_ne (Nat.ne_of_lt (Heap.lt_size q))]
    exact I.freeC y c (hcl y c e)
  · rw [List.append_nil] at hp
    obtain ⟨q, n, ne, nf, d⟩ := I.pin p hp
    have lt := Heap.lt_size q
    refine ⟨kp _ _ q, by rw [upd_ne (Nat.ne_of_lt lt)]; exact n, Nat.ne_of_lt (Nat.lt_of_lt_of_le lt hL), fun hm => ?_, d⟩
    rcases List.mem_cons.mp (I.stkSub p.1 hm) with z | z
    · exact ne z
    · exact nf z
  · show _ = (x :: ys).length
    unfold pick
    rw [List.length_cons, List.length_map, B.len, List.length_cons]

theorem comp_core {px pos : Pos} {iter elt : Expr} {ifs : List Expr} {it : Addr} {tn : Nat → Heap → Prop} {J : It} {tt : TT} {te : TE} {Qd : Addr → Hp → Prop} {RR : Value → Addr → Result → Shared → Prop} {E : Value → Shared → Prop}
    (hc : X.calm = true) (B : BlockOk X scope x ys ix) (I : Inv X pins σ H s₂) (T : Turn X.prog X.w X.K (.Name x px) J fp it tn) (st0 : tn 0 s₂.heap) (hf : ∀ b ∈ fp, FpOk X pins H b)
    (hcl : ∀ y c, cl.lookup y = some c → X.env.cells.lookup y = some c) (hcf : ∀ y ∈ scope.names, y.2 = .free → ∃ c, cl.lookup y.1 = some c)
    (ht : ∀ L s H ex pn, PTs (compCx X scope (x :: ys) cl L s H ex pn) ifs tt) (he : ∀ L s H ex pn, PE (compCx X scope (x :: ys) cl L s H ex pn) elt te)
    (hw : ∀ l, H l = none → CompW J l (pick σ ix) tt te H (Qd l))
    (hRR : ∀ D L H' s' m, Inv X pins σ H' s' → s'.heap.Ns L m → H' L = none → L ≠ X.env.locals → X.s₀.heap.objs.size ≤ L → (∀ y c, X.env.cells.lookup y = some c → c ≠ L) → (∀ p ∈ X.pn ++ pins, p.1 ≠ L) → Qd D H' → RR (.ref D) L (.ok .next) s') :
    wpAny (model X.prog X.w) X.A (newList []) (fun acc s₃ => wpAny (model X.prog X.w) X.A (newFunctionEnv scope X.env.globals cl [] X.env.qual none .none (some X.env)) (fun cenv s₄ =>
      codeAny (model X.prog X.w) X.A (.compStart (.ListComp elt [⟨.Name x px, iter, ifs, 0⟩] scope pos) 0 (.ref it) acc { cenv with scope := relabel scope X.env }) (RR acc cenv.locals) s₄) E s₃) E s₂ := by
  refine wpAny_newObj_type (wpAny_newFunctionEnv B.nocell (by intro y hy; simp at hy) (fun h₁ hns₁ hsb₁ => ?_) B.kind)
  dsimp only at hns₁ hsb₁ ⊢
  generalize hH2 : s₂.heap.push { cls := .type "list", dict := none, data := .seq ([] : List Value).toArray } = H2 at hns₁ hsb₁ ⊢
  have hC : H2.objs.size = s₂.heap.objs.size + 1 := by rw [← hH2, Heap.size_push]
  have hDC : s₂.heap.objs.size ≠ H2.objs.size := by rw [hC]; exact Nat.ne_of_lt (Nat.lt_succ_self _)
  have hCle : s₂.heap.objs.size ≤ H2.objs.size := by rw [hC]; exact Nat.le_succ _
  have old : ∀ b o, s₂.heap.get? b = some o → h₁.get? b = some o := fun b o e => hsb₁.extBut b o (Nat.ne_of_lt (Nat.lt_of_lt_of_le (Heap.lt_size e) hCle)) (Heap.get?_push_of_some _ (hH2 ▸ Heap.get?_push_of_some _ e))
  have hacc : h₁.get? s₂.heap.objs.size = some { cls := .type "list", data := .seq ([] : List Value).toArray } := hsb₁.extBut _ _ hDC (Heap.get?_push_of_some _ (hH2 ▸ Heap.get?_push_size _ rfl))
  have hfl : ∀ b ∈ fp, b < s₂.heap.objs.size := fun b hb => let ⟨o, e, _⟩ := T.obj 0 _ st0 b hb; Heap.lt_size e
  have kpf : ∀ b ∈ fp, ∀ o, s₂.heap.get? b = some o → h₁.get? b = some o := fun b _ o e => old b o e
  have st1 : tn 0 h₁ := T.keep 0 _ _ st0 kpf
  obtain ⟨W, ⟨m0, w0⟩, turn⟩ := hw s₂.heap.objs.size (I.hok.fresh (Nat.le_refl _))
  have loop : ∀ s₃ : Shared, s₃ = { s₂ with heap := h₁, toks := s₂.toks + ([] : List (Str × Value)).length } →
      codeAny (model X.prog X.w) X.A (.compLoop (.ListComp elt [⟨.Name x px, iter, ifs, 0⟩] scope pos) 0 (.ref it) (.ref s₂.heap.objs.size) (compEnvC scope cl H2.objs.size X.env))
        (RR (.ref s₂.heap.objs.size) H2.objs.size) s₃ := by
    rintro s₃ rfl
    have I0 := comp_inv (tk := s₂.toks + ([] : List (Str × Value)).length) (n₀ := 0) (m₁ := _) (L := H2.objs.size) B I hf hfl hCle hcl hcf old hns₁ rfl hDC hacc
    have hx : (relabel scope X.env).names.lookup x = some .local := lookup_relabel_local B.var
    refine comp_loop (env := compEnvC scope cl H2.objs.size X.env)
      (fun n s' => ∃ i ys' v0 H', Inv (compCx X scope (x :: ys) cl H2.objs.size s₂ H fp (X.pn ++ pins)) [] (v0 :: pick σ ix) H' s' ∧ tn i s'.heap ∧ (∀ b ∈ fp, H' b = none) ∧ W i n ys' H') ?_ m0
      ⟨0, [], none, _, I0, st1, fun b hb => by rw [upd_ne (Nat.ne_of_lt (hfl b hb))]; exact (hf b hb).1, w0⟩
    rintro n s3 ⟨i, ys', v0, H3, I3, st3, fr3, w3⟩
    obtain ⟨hl3, alt⟩ := turn i n ys' H3 w3
    have stat : ∀ {H' : Hp}, (∀ b ∈ fp, H' b = none) → ∀ b ∈ fp, FpOk (compCx X scope (x :: ys) cl H2.objs.size s₂ H fp (X.pn ++ pins)) [] H' b := fun hn b hb =>
      ⟨hn b hb, Nat.ne_of_lt (Nat.lt_of_lt_of_le (hfl b hb) hCle), fun hm => by
        rcases List.mem_cons.mp (I.stkSub b hm) with z | z
        · exact (hf b hb).2.1 z
        · exact (hf b hb).2.2.1 z, .inl hb, fun y c e => (hf b hb).2.2.2.2.1 y c (hcl y c e), fun p hp => (hf b hb).2.2.2.2.2 p (by simpa [compCx] using hp)⟩
    rcases alt with ⟨stop, qd⟩ | ⟨go, hsz, step⟩
    · refine thn (T.done (compCx X scope (x :: ys) cl H2.objs.size s₂ H fp (X.pn ++ pins)) rfl rfl rfl hc i [] s3 _ H3 _ I3 (stat fr3) st3 stop) fun r s4 ⟨hr, I4⟩ => ?_
      subst hr
      obtain ⟨m, hn, _⟩ := I4.loc
      refine hRR s₂.heap.objs.size H2.objs.size H3 s4 m ?_ hn I4.free (Nat.ne_of_gt (Nat.lt_of_lt_of_le I.lt hCle)) (Nat.le_trans I.sz hCle) (fun y c e => ?_) (fun p hp => ?_) qd
      · exact I.call' I4.os I4.base I4.hok I4.bare fun b hb => ⟨(hf b hb).2.2.2.1, (hf b hb).2.1, (hf b hb).2.2.2.2.1, (hf b hb).2.2.2.2.2⟩
      · obtain ⟨v, o, q, d⟩ := I.cell y c e
        exact Nat.ne_of_lt (Nat.lt_of_lt_of_le (Heap.lt_size q) hCle)
      · exact Nat.ne_of_lt (Nat.lt_of_lt_of_le (Heap.lt_size (I.pin p hp).1) hCle)
    · refine thn (T.item (compCx X scope (x :: ys) cl H2.objs.size s₂ H fp (X.pn ++ pins)) rfl rfl rfl hc i [] s3 _ H3 _ I3 (stat fr3) st3 go) fun r s4 ⟨u, hr, h4⟩ => ?_
      subst hr
      refine thn h4 fun _ s5 ⟨xv, H5, I5, r5, y5, st5, fr5⟩ => ?_
      have I5' := I5.pinned (stat fr5) (T.obj _ _ st5)
      have hg : PG (compCx X scope (x :: ys) cl H2.objs.size s₂ H fp (X.pn ++ pins)) (.Name x px) (gName 0) := pg_name B.nd rfl (.inl hx) (.inr hx)
      refine wpAny_mono (hg _ s5 _ H5 xv u (fun σ' H' => σ' = some xv :: pick σ ix ∧ H' = H5) I5' r5 ⟨rfl, rfl⟩) (fun _ s6 ⟨σ6, H6, I6, e6, e6'⟩ => ?_) fun _ _ z => False.elim z
      subst e6 e6'
      refine wpAny_mono (ht _ _ _ _ _ _ s6 _ _ _ I6 (step xv _ y5)) (fun b s7 ⟨H7, I7, q7⟩ => ?_) fun _ _ z => False.elim z
      have again : ∀ {σ8 : St} {H8 : Hp} {s8 : Shared}, Inv (compCx X scope (x :: ys) cl H2.objs.size s₂ H fp (X.pn ++ pins)) ([] ++ pinsAt fp s5.heap) σ8 H8 s8 →
          Inv (compCx X scope (x :: ys) cl H2.objs.size s₂ H fp (X.pn ++ pins)) [] σ8 H8 s8 ∧ tn (i + 1) s8.heap ∧ ∀ b ∈ fp, H8 b = none := fun {σ8 H8 s8} I8 => by
        refine ⟨I8.unpinned, T.keep _ _ _ st5 fun b hb o e => (I8.pin (b, o) (List.mem_append_right _ (List.mem_append_right _ (mem_pinsAt hb e)))).1, fun b hb => ?_⟩
        obtain ⟨o, e, d⟩ := T.obj _ _ st5 b hb
        exact (I8.pin (b, o) (List.mem_append_right _ (List.mem_append_right _ (mem_pinsAt hb e)))).2.1
      cases b with
      | false =>
        rw [if_neg Bool.false_ne_true] at q7 ⊢
        obtain ⟨m', hm, w7⟩ := q7
        obtain ⟨a1, a2, a3⟩ := again I7
        exact ⟨m', hm, i + 1, ys', some xv, H7, a1, a2, a3, w7⟩
      | true =>
        rw [if_pos rfl] at q7 ⊢
        refine wpAny_mono (he _ _ _ _ _ _ s7 _ _ _ I7 q7) (fun uy s8 ⟨y, H8, I8, r8, hl8, m', hm, w8⟩ => ?_) fun _ _ z => False.elim z
        refine wpAny_mono (mt_append (X := compCx X scope (x :: ys) cl H2.objs.size s₂ H fp (X.pn ++ pins)) _ s8 _ H8 (.ref s₂.heap.objs.size) [y] (.ref s₂.heap.objs.size) [uy] (fun _ H9 => H9 = upd H8 s₂.heap.objs.size (.lst (ys' ++ [y]))) I8 rfl (.cons r8 .nil) ⟨_, ys', y, rfl, rfl, hl8, hsz, rfl⟩)
          (fun _ s9 ⟨v9, H9, I9, _, e9⟩ => ?_) fun _ _ z => False.elim z
        subst e9
        obtain ⟨a1, a2, a3⟩ := again I9
        exact ⟨m', hm, i + 1, ys' ++ [y], some xv, _, a1, a2, a3, w8⟩
  exact codeAny_compStart_list (loop _ rfl) (T.self X.A 0 _ _ _ st1 (loop _ rfl))

theorem pe_comp {px pos : Pos} {iter elt : Expr} {ifs : List Expr} {wi : TI} {tt : TT} {te : TE} (hc : X.calm = true) (B : BlockOk X scope x ys ix) (hi : PI X (.Name x px) iter wi)
    (ht : ∀ cl L s H ex pn, PTs (compCx X scope (x :: ys) cl L s H ex pn) ifs tt) (he : ∀ cl L s H ex pn, PE (compCx X scope (x :: ys) cl L s H ex pn) elt te)
    (hs : ∀ v, foldedSetIterable iter X.env v = pure v := by intro _; rfl) : PE X (.ListComp elt [⟨.Name x px, iter, ifs, 0⟩] scope pos) (tComp wi ix tt te) := by
  intro pins s σ H Q I h
  obtain ⟨cl, hclos, hcl, hcf⟩ := closureFor_ok (scope := scope) (env := X.env) (fun y hy hyf => I.ok.has y.1 (B.free y hy hyf))
  rw [eval_ListComp]
  refine wpAny_comprehension_free (use := none) rfl hs hclos B.kind B.names (thn (hi pins s σ H _ I h) fun xv s1 h1 => thn h1 fun itv s2 h2 => ?_)
  obtain ⟨it, fp, tn, J, H2, e, I2, T, st2, f2, hw⟩ := h2
  subst e
  refine comp_core (RR := fun acc C => compPost (model X.prog X.w) X.A X.xe none (EP X pins σ Q) acc C) (Qd := fun l H' => Q (.ref l) H') hc B I2 T st2 f2 hcl hcf (ht cl) (he cl) hw ?_
  intro D L H' s' m I' hn hfree h1 h2 h3 h4 q
  exact ⟨m, hn, fun h' hs' => ⟨.ref D, H', I'.turned (it := L) (t' := s'.toks) (fun b o hb e => (hs'.2 b hb).trans e) hfree h1 (.inr h2) h3 h4, rfl, q⟩⟩
end
end L2

set_option Elab.async false
set_option linter.all false
set_option maxRecDepth 100000
namespace L2
open PySem PySem.Spec PyProof.Rows

section
variable {X : Cx} {scope : Scope} {x : Str} {ys : List Str} {ix : List Nat}
/-- name = [.. for x in ..], the name a plain local one -/
theorem ps_setComp {i : Nat} {y : Str} {px py pos spos : Pos} {iter elt : Expr} {ifs : List Expr} {wi : TI} {tt : TT} {te : TE} (hc : X.calm = true) (B : BlockOk X scope x ys ix) (hN : X.N.Nodup) (hy : X.N[i]? = some y) (hyl : X.env.scope.names.lookup y = some .local) (hi : PI X (.Name x px) iter wi)
    (ht : ∀ cl L s H ex pn, PTs (compCx X scope (x :: ys) cl L s H ex pn) ifs tt) (he : ∀ cl L s H ex pn, PE (compCx X scope (x :: ys) cl L s H ex pn) elt te)
    (hsw : swapsWith (.ListComp elt [⟨.Name x px, iter, ifs, 0⟩] scope pos) (some (.Name y py)) spos.line X.env = pure true := by rfl)
    (hs : ∀ v, foldedSetIterable iter X.env v = pure v := by intro _; rfl) : PS X (.Assign [.Name y py] (.ListComp elt [⟨.Name x px, iter, ifs, 0⟩] scope pos) spos) (tCompS wi ix tt te i) := by
  intro pins s σ H D I h
  obtain ⟨cl, hclos, hcl, hcf⟩ := closureFor_ok (scope := scope) (env := X.env) (fun y hy hyf => I.ok.has y.1 (B.free y hy hyf))
  rw [exec_Assign_Name_used _ _ _ _ hsw]
  refine wpAny_bind (wpAny_standAt (wpAny_bind ?_))
  show wpAny _ X.A (do let _ ← comprehension (.ListComp elt [⟨.Name x px, iter, ifs, 0⟩] scope pos) scope X.env _ (newList []) false (eval iter X.env) (some (assign (.Name y py) X.env))) _ _ s
  refine wpAny_bind (wpAny_mono (wpAny_comprehension_free (use := some (assign (.Name y py) X.env)) (Q := fun _ s' => SP X pins D .next s') rfl hs hclos B.kind B.names
    (thn (hi pins s σ H _ I h) fun xv s1 h1 => thn h1 fun itv s2 h2 => ?_)) (fun _ s' hq => wpAny_pure (wpAny_pure hq)) fun _ _ e => e)
  obtain ⟨it, fp, tn, J, H2, e, I2, T, st2, f2, hw⟩ := h2
  subst e
  refine comp_core (RR := fun acc C => compPost (model X.prog X.w) X.A X.xe (some (assign (.Name y py) X.env)) (fun _ s' => SP X pins D .next s') acc C) (Qd := fun l H' => D.nx (σ.set i (some (.ref l))) H') hc B I2 T st2 f2 hcl hcf (ht cl) (he cl) hw ?_
  intro D' L H' s' m I' hn hfree h1 h2 h3 h4 q
  show wpAny _ X.A (assign (.Name y py) X.env (.ref D')) _ _ _
  refine wpAny_assign_Name (store_ok2 I' hN hy (.inl hyl) (v := .ref D') rfl (fun s'' I'' sb => ?_) (.inr hyl))
  obtain ⟨a, hsb, ha⟩ := sb
  have hL : L ≠ a := by
    rcases ha with z | z
    · rw [z]; exact h1
    · exact (h3 y a z).symm
  refine ⟨m, hn.sameBut hsb hL, fun h' hs' => ⟨_, H', I''.turned (it := L) (t' := s''.toks) (fun b o hb e => (hs'.2 b hb).trans e) hfree h1 (.inr h2) h3 h4, q⟩⟩
end

/-- a comprehension whose parts make no new things that matter: the values g x of the items that pass p -/
theorem comp_pure {J : It} {Ok : Hp → Prop} {xs : List V} {l : Addr} {σf : St} {tt : TT} {te : TE} {H : Hp} {Q : Hp → Prop} (p : V → Bool) (g : V → V) (hJ : ItIs J Ok xs) (hl : H l = none) (hz : xs.length ≤ sizeLine) (hOk : ∀ H', Same H H' → Ok H')
    (ht : ∀ x H3 Q', x ∈ xs → Same H H3 → (∀ H', Same H3 H' → Q' (p x) H') → tt (some x :: σf) H3 Q')
    (he : ∀ x H3 Q', x ∈ xs → p x = true → Same H H3 → (∀ H', Same H3 H' → Q' (g x) H') → te (some x :: σf) H3 Q')
    (hd : ∀ H', Same H H' → H' l = some (.lst ((xs.filter p).map g)) → Q H') : CompW J l σf tt te H Q := by
  refine ⟨fun i m ys H2 => m = xs.length - i ∧ i ≤ xs.length ∧ Same H H2 ∧ H2 l = some (.lst ys) ∧ ys = ((xs.take i).filter p).map g, ⟨xs.length, by simp, Nat.zero_le _, Same.upd hl, upd_same, by simp⟩, ?_⟩
  rintro i m ys H2 ⟨rfl, hi, s2, h2, e2⟩
  refine ⟨h2, ?_⟩
  by_cases hlt : i < xs.length
  · refine .inr ⟨hJ.go i H2 (hOk _ s2) hlt, ?_, fun x H3 y => ?_⟩
    · rw [e2, List.length_map]
      refine Nat.lt_of_le_of_lt (List.length_filter_le _ _) ?_
      rw [List.length_take]
      omega
    · obtain ⟨e, hx⟩ := hJ.yld i H2 x H3 (hOk _ s2) hlt y
      subst e
      have mem : x ∈ xs := List.mem_of_getElem? hx
      have tk : xs.take (i + 1) = xs.take i ++ [x] := by rw [List.take_add_one, hx]; rfl
      refine ht x _ _ mem s2 fun H4 s4 => ?_
      cases hp : p x with
      | false =>
        rw [if_neg Bool.false_ne_true]
        refine ⟨xs.length - (i + 1), by omega, rfl, hlt, s2.trans s4, s4 _ _ h2, ?_⟩
        rw [tk, List.filter_append, e2]
        simp [hp]
      | true =>
        rw [if_pos rfl]
        refine he x _ _ mem hp (s2.trans s4) fun H5 s5 => ?_
        refine ⟨s5 _ _ (s4 _ _ h2), xs.length - (i + 1), by omega, rfl, hlt, ?_, upd_same, ?_⟩
        · intro b o e
          rw [upd_ne (ne_of_none e hl)]
          exact s5 _ _ (s4 _ _ (s2 _ _ e))
        · rw [tk, List.filter_append, e2]
          simp [hp]
  · have e : i = xs.length := by omega
    subst e
    refine .inl ⟨hJ.stop H2 (hOk _ s2), hd H2 s2 ?_⟩
    rw [h2, e2, List.take_length]

/-! ### any, all -/
theorem boolsAre_of {bs : List Bool} : ∀ {us : List Value}, Vals (bs.map V.bl) us → LSm.BoolsAre us bs := by
  induction bs with
  | nil => intro us r; rw [List.map_nil] at r; cases r; exact .nil
  | cons n ns ih =>
    intro us r
    rw [List.map_cons] at r
    cases r with
    | cons r1 r2 =>
      cases r1
      exact .cons n (ih r2)
theorem strsAre_of {ns : List Str} : ∀ {us : List Value}, Vals (ns.map V.str) us → StrsAre us ns := by
  induction ns with
  | nil => intro us r; rw [List.map_nil] at r; cases r; exact .nil
  | cons n ns ih =>
    intro us r
    rw [List.map_cons] at r
    cases r with
    | cons r1 r2 =>
      obtain ⟨t, e⟩ := r1
      subst e
      exact .cons n t (ih r2)
section
variable {X : Cx}
theorem call_all (hc : X.calm = true) : CallR X (.builtin "all") (fun xs H Q => ∃ p bs, xs = [.ref p] ∧ SqL X.K H p (List.map V.bl bs) ∧ Q (.bl (bs.all id)) H) := by
  intro pins s σ H xs us Q I r h
  obtain ⟨p, bs, rfl, hq, q⟩ := h
  obtain ⟨u, rfl, rx⟩ := vals1 r
  cases rx
  obtain ⟨its, rv, pl, hz⟩ := I.list hq
  have hb := boolsAre_of rv
  have hl := pl.isList
  have hh := I.ok.hd hc
  have hlt : p < s.heap.objs.size := by obtain ⟨_, e, _⟩ := hl; exact Heap.lt_size e
  refine call_all_walk (wpAny_pyIter_list hl ?_)
  refine ⟨s.heap.objs.size, [s.heap.objs.size, p], [s.heap.objs.size], its.toArray.size, _, _, fun i => (bs[i]?).getD true, rfl, Walks.list (A := X.A.in1) hh _ p (Nat.ne_of_lt hlt) its.toArray,
    ⟨⟨_, Heap.get?_push_size _ rfl, rfl, rfl⟩, hl.push _⟩, fun i v s' Q' E' hP hQ => ?_, fun h' tk hk => ?_⟩
  · obtain ⟨b, e, rfl⟩ := hb.get i v (by simpa using hP)
    simp only [e, Option.getD_some] at hQ
    exact wpAny_truthy_bool hQ
  · have e : ((List.range its.toArray.size).all fun i => (bs[i]?).getD true) = bs.all id := by
      rw [List.size_toArray, hb.length]; exact LSm.range_all bs
    rw [e]
    exact ⟨.bl _, H, I.kept (LSm.kept_iter hk), rfl, q⟩

/-! ### sorted, list of a dict; its values -/
/-- the view of a dict's values -/
def viewV (v d : Addr) : HO := .ext fun h => h.IsValuesView v d

/-! ### == of two lists of flat items -/
def eqVs : List V → List V → Bool
  | [], [] => true
  | x :: xs, y :: ys => eqV x y && eqVs xs ys
  | _, _ => false
theorem eqVs_len {xs ys : List V} (h : xs.length ≠ ys.length) : eqVs xs ys = false := by
  induction xs generalizing ys with
  | nil => cases ys with
    | nil => exact absurd rfl h
    | cons _ _ => rfl
  | cons x xs ih => cases ys with
    | nil => rfl
    | cons y ys =>
      show (eqV x y && eqVs xs ys) = false
      rw [ih (by simpa using h), Bool.and_false]
theorem eqVs_range : ∀ {xs ys : List V}, xs.length = ys.length → eqVs xs ys = (List.range xs.length).all fun j => eqV (xs.getD j .non) (ys.getD j .non)
  | [], [], _ => rfl
  | [], _ :: _, h => by simp at h
  | _ :: _, [], h => by simp at h
  | x :: xs, y :: ys, h => by
    show (eqV x y && eqVs xs ys) = _
    rw [List.length_cons, List.range_succ_eq_map, List.all_cons, List.all_map, eqVs_range (by simpa using h)]
    rfl
def rEqL (K : PySem.W.Frag) : R2 := fun x y H Q => ∃ a b xs ys, x = .ref a ∧ y = .ref b ∧ SqL K H a xs ∧ SqL K H b ys ∧ xs.all flatV = true ∧ ys.all flatV = true ∧ Q (.bl (eqVs xs ys)) H

/-! ### isinstance -/
theorem call_isinst : CallR X (.builtin "isinstance") (fun xs H Q => ∃ x T t b, xs = [x, .ty T] ∧ TyOf X.K H x t ∧ PySem.W.kitOne X.K t (.type T) = some b ∧ Q (.bl b) H) := by
  intro pins s σ H xs us Q I r h
  obtain ⟨x, T, t, b, rfl, ty, e, q⟩ := h
  obtain ⟨u, w', rfl, r1, r2⟩ := vals2 r
  cases r2
  exact isinst_ok I r1 ty e fun tk => ⟨.bl b, H, I.tok tk, rfl, q⟩

/-! ### texts: slices, join -/
def cutS (z : Str) (lo hi : Option Int) : Str := Txt.slice z lo hi
theorem mt_join : MtR X "str.join" (fun x xs H Q => ∃ z p ts, x = .str z ∧ xs = [.ref p] ∧ SqL X.K H p (List.map V.str ts) ∧ (ts.map (·.length)).sum + ts.length * z.length ≤ 16777216 ∧ Q (.str (Txt.join z ts)) H) := by
  intro pins s σ H x xs v us Q I rx rs h
  obtain ⟨z, p, ts, rfl, rfl, hq, hz, q⟩ := h
  obtain ⟨t, rfl⟩ := rx
  obtain ⟨u, rfl, ru⟩ := rs.one
  cases ru
  obtain ⟨its, rv, pl, _⟩ := I.list hq
  exact join_list pl.isList (by simpa using strsAre_of rv) hz fun t' k => ⟨.str _, H, I.tok k, ⟨t', rfl⟩, q⟩
end

/-! ### enumerate of a list -/
def Ite (K : PySem.W.Frag) (a : Addr) : It :=
  ⟨fun i H => ∃ xs x, SqL K H a xs ∧ xs[i]? = some x, fun i H x H' => ∃ T xv, H T = none ∧ x = .ref T ∧ H' = upd H T (.tup [.int (i : Nat), xv]) ∧ ∀ xs, SqL K H a xs → xs[i]? = some xv, fun i H => ∃ xs, SqL K H a xs ∧ xs.length ≤ i⟩
theorem turn_enum {P : Program} {w : World} {K : PySem.W.Frag} {elts : List Expr} {k : Nat} {pos : Pos} (a e it : Addr) (hei : e ≠ it) : Turn P w K (.Tuple elts k pos) (Ite K a) [e, it] e (fun i h => (∃ old, IsEnum h e it (i : Nat) old) ∧ h.IsListIter it a i) where
  mem := by simp
  obj := fun i h st b hb => by
    obtain ⟨⟨old, he⟩, o, ho, hc, hd⟩ := st
    rcases List.mem_cons.mp hb with rfl | hb
    · exact ⟨_, he, fun v z => by
        have z' : Data.fields _ = Data.cell v := z
        cases z'⟩
    · have e' : b = it := by simpa using hb
      subst e'
      exact ⟨o, ho, fun v z => by rw [hd] at z; cases z⟩
  keep := fun i h h' st k => ⟨st.1.imp fun old he => k e (by simp) _ he, st.2.at fun o q => k it (by simp) o q⟩
  item := by
    intro X hP hw hK hc i pins s σ H E I hf st hg
    subst hP hw hK
    obtain ⟨xs, x, hq, hx⟩ := hg
    obtain ⟨its, rv, p, hz⟩ := I.list hq
    obtain ⟨u, hu, ru⟩ := rv.get hx
    obtain ⟨⟨old, he⟩, hit⟩ := st
    obtain ⟨f0, f1, f2, f3, f4, f5⟩ := hf e (by simp)
    obtain ⟨g0, g1, g2, g3, g4, g5⟩ := hf it (by simp)
    refine wpAny_pyNext_enum_item he hit p.isList (x := u) (by simpa using hu) hei fun h' ho hit' hT hsz hk => ?_
    refine ⟨_, rfl, wpAny_letOwnedTupleGo_enum ho fun h'' he' hs' => ?_⟩
    have kp : ∀ b o, b ≠ e → b ≠ it → s.heap.get? b = some o → h''.get? b = some o := fun b o h1 h2 q => (hs'.2 b h1).trans (hk b o h1 h2 q)
    have elt : e < s.heap.objs.size := Heap.lt_size he
    have hTe : s.heap.objs.size ≠ e := Nat.ne_of_gt elt
    have hT' : h''.get? s.heap.objs.size = some { cls := .type "tuple", data := .seq #[.int i s.toks, u] } := (hs'.2 _ hTe).trans hT
    have fr := I.hok.fresh (Nat.le_refl s.heap.objs.size)
    have ntr : ∀ b o, H b = some o → b ≠ e ∧ b ≠ it := fun b o q => ⟨(fun z => by rw [z, f0] at q; cases q), (fun z => by rw [z, g0] at q; cases q)⟩
    have hok' : HOk X.prog X.w (upd H s.heap.objs.size (.tup [.int (i : Nat), x])) h'' := by
      intro b o q
      by_cases hb : b = s.heap.objs.size
      · subst hb
        rw [upd_same] at q
        cases q
        exact ⟨by show 2 ≤ sizeLine; decide, [.int i s.toks, u], .cons ⟨_, rfl⟩ (.cons ru .nil), ⟨_, hT', rfl, _, rfl⟩⟩
      · rw [upd_ne hb] at q
        refine (I.hok b o q).stay (fun c v hc r => ?_) (fun c r => by rw [upd_ne (ne_of_none r fr)]; exact r) fun c ys r => by rw [upd_ne (ne_of_none r fr)]; exact r
        rcases hc with z | z
        · rw [z] at r ⊢
          exact kp b v (ntr b o q).1 (ntr b o q).2 r
        · exact kp c v (ntr c _ z).1 (ntr c _ z).2 r
    have I1 : Inv X pins σ (upd H s.heap.objs.size (.tup [.int (i : Nat), x])) { s with heap := h'', gens := s.gens, drawn := s.drawn, toks := s.toks + 1 } := by
      refine I.step (ch := [e, it]) (fun b hb => ?_) (fun b o _ _ hc q _ => kp b o (fun z => hc (by simp [z])) (fun z => hc (by simp [z])) q) (fun b o _ _ hc q _ => ⟨o.slots, kp b o (fun z => hc (by simp [z])) (fun z => hc (by simp [z])) q⟩)
        (fun b o _ q n => by rw [upd_ne (Nat.ne_of_lt (Heap.lt_size q))]; exact n) (fun b o hc q => ⟨o, kp b o (fun z => hc (by simp [z])) (fun z => hc (by simp [z])) q⟩)
        (fun b ys r => by rw [upd_ne (ne_of_none r fr)]; exact r) (fun b o u r => by rw [upd_ne (ne_of_none r fr)]; exact r) (fun b ps r => ⟨#[], by rw [upd_ne (ne_of_none r fr), r]; simp⟩)
        (fun m ⟨o, es, ep, ho', r⟩ => ⟨o, es, ep, kp _ o (Ne.symm f1) (Ne.symm g1) ho', r⟩) hok' I.bare
      rcases List.mem_cons.mp hb with rfl | hb
      · exact ⟨f3, f1, f4, f5⟩
      · have e' : b = it := by simpa using hb
        subst e'
        exact ⟨g3, g1, g4, g5⟩
    refine ⟨.ref s.heap.objs.size, _, I1, rfl, ⟨s.heap.objs.size, x, fr, rfl, rfl, fun ys hy => by rw [I.list_inj hy hq]; exact hx⟩, ⟨⟨u, by simpa using he'⟩, ?_⟩, fun b hb => ?_⟩
    · exact hit'.at fun o q => (hs'.2 it (Ne.symm hei)).trans q
    · have : b < s.heap.objs.size := by
        rcases List.mem_cons.mp hb with rfl | hb
        · exact elt
        · have e' : b = it := by simpa using hb
          subst e'
          obtain ⟨o, q, _⟩ := hit
          exact Heap.lt_size q
      rw [upd_ne (Nat.ne_of_lt this)]
      exact (hf b hb).1
  done := by
    intro X hP hw hK hc i pins s σ H E I hf st hg
    subst hP hw hK
    obtain ⟨xs, hq, hx⟩ := hg
    obtain ⟨its, rv, p, hz⟩ := I.list hq
    have hl := rv.length
    obtain ⟨⟨old, he⟩, hit⟩ := st
    obtain ⟨g0, g1, g2, g3, g4, g5⟩ := hf it (by simp)
    exact wpAny_pyNext_enum_end (I.ok.hd hc) he hit p.isList (Array.getElem?_eq_none (by simp; omega)) fun h' eb => ⟨rfl, I.turned (t' := s.toks) (fun b o hb e => eb b o hb e) g0 g1 g3 g4 g5⟩
  self := fun _ _ _ _ _ st h => let ⟨⟨_, he⟩, _⟩ := st; wpAny_pyIter_enum he h
theorem boot_enumerate' : bootBuiltins "enumerate" = some (.type "enumerate") := by decide +kernel
section
variable {X : Cx}
def iEnum (K : PySem.W.Frag) (ta : TA) : TI := fun σ H R => ta σ H fun vs H1 => ∃ a xs, vs = [.ref a] ∧ SqL K H1 a xs ∧ R (Ite K a) H1
theorem pi_enum {elts : List Expr} {k : Nat} {tpos : Pos} {l : Expr} {ta : TA} {p pos : Pos} (hg : Gl X "enumerate") (hm : X.mg "enumerate" = none) (ha : PA X [l] ta) (hs : starEach [l] X.env = [(false, eval l X.env)] := by rfl) :
    PI X (.Tuple elts k tpos) (.Call (.Name "enumerate" p) [l] [] pos) (iEnum X.K ta) := by
  intro pins s σ H R I h
  refine Call_ (ld_blt I hg hm boot_enumerate' (PyProof.Rows.callWith_type1 (thn (ha pos pins s σ H _ I h) fun us s1 ⟨vs, H1, I1, r1, q1⟩ => ?_) hs rfl))
  obtain ⟨a, xs, e, hq, q⟩ := q1
  subst e
  obtain ⟨u, rfl, ru⟩ := vals1 r1
  cases ru
  obtain ⟨its, rv, pl, hz⟩ := I1.list hq
  refine call_enumerate_list pl.isList fun h' he hit hsz kp => wpAny_pyIter_enum he ?_
  have I2 : Inv X pins σ H1 { s1 with heap := h' } := I1.kept (t' := s1.toks) kp
  refine ⟨s1.heap.objs.size + 1, [s1.heap.objs.size + 1, s1.heap.objs.size], _, _, H1, rfl, I2, turn_enum a _ _ (Nat.ne_of_gt (Nat.lt_succ_self _)), ⟨⟨_, he⟩, hit⟩, fun b hb => ?_, q⟩
  have hb' : s1.heap.objs.size ≤ b := by
    rcases List.mem_cons.mp hb with rfl | hb
    · exact Nat.le_succ _
    · have e' : b = s1.heap.objs.size := by simpa using hb
      subst e'
      exact Nat.le_refl _
  exact I1.fpOk hb' (I1.hok.fresh hb')
end
end L2

set_option Elab.async false
set_option linter.all false
set_option maxRecDepth 100000
/-! ### a set of a text's signs: only its size is asked -/
namespace L2
open PySem PySem.Spec PyProof.Rows
def stepD (σ : List Str) (v : Str) : List Str := if σ.any (· == v) = true then σ else σ ++ [v]
def firstD (val : Nat → Str) (i : Nat) : List Str := ((List.range i).map val).foldl stepD []
section
variable {prog : Program} {w : World} {A : Around} {R : Result → Shared → Prop} {I : Addr} {fp wr : List Addr} {G : Array GenState → Array GenState → Prop} {n : Nat} {P : Nat → Value → Prop} {St : Nat → Shared → Prop}
end

section
variable {prog : Program} {w : World} {A : Around} {E : Value → Shared → Prop} {s : Shared}
def signAt (x : Str) (i : Nat) : Str := ⟨#[x.cps.getD i 0]⟩
set_option maxRecDepth 100000 in
set_option maxHeartbeats 3200000 in
end

section
variable {X : Cx}
/-- a set of texts, by its size -/
def setS (P : Program) (w : World) (a : Addr) (n : Nat) : HO := .ext fun h => ∃ S, h.SetOf (PySem.strKind P w) a S n
end
end L2

set_option Elab.async false
set_option linter.all false
set_option maxRecDepth 100000
/-! ### code that runs where tokens are above 0; the frame's own map -/
namespace L2
open PySem PySem.Spec PyProof.Rows
section
variable {X : Cx} {pins : List (Addr × Obj)} {σ : St} {H : Hp} {s : Shared}
end

def PS1 (X : Cx) (st : Stmt) (t : TS) : Prop :=
  ∀ (pins : List (Addr × Obj)) (s : Shared) (σ : St) (H : Hp) (D : Ends), Inv X pins σ H s → 1 ≤ s.toks → t D σ H → wpAny (model X.prog X.w) X.A (exec st X.env) (SP X pins D) X.xe s
def PSs1 (X : Cx) (st : List Stmt) (t : TS) : Prop :=
  ∀ (pins : List (Addr × Obj)) (s : Shared) (σ : St) (H : Hp) (D : Ends), Inv X pins σ H s → 1 ≤ s.toks → t D σ H → wpAny (model X.prog X.w) X.A (execs st X.env) (SP X pins D) X.xe s
section
variable {X : Cx} {st : Stmt} {rest : List Stmt} {t u : TS} {pos : Pos}

/-- sign = pool[e]; found = found + sign; pool = pool.replace(sign, ''): slots a (pool), b (sign), c (found) -/
def tSigns (a b c : Nat) (z0 : Str) (ti : TE) : TS := fun D σ H => ∃ pool found, σ[a]? = some (some (.str pool)) ∧ σ[c]? = some (some (.str found)) ∧ ti σ H fun y H1 => ∃ i ch, y = .int i ∧ pool.length ≤ 100 ∧ found.length ≤ 100 ∧ atI pool.cps.toList i = some ch ∧
  D.nx (((σ.set b (some (.str ⟨#[ch]⟩))).set c (some (.str (found ++ ⟨#[ch]⟩)))).set a (some (.str (Txt.replace pool ⟨#[ch]⟩ z0)))) H1
end
end L2

set_option Elab.async false
set_option linter.all false
/-! the mathematics: texts as lists of signs -/
namespace Bs
open PySem PySem.Spec PyProof.Rows
abbrev ch (x : Str) : List Nat := x.cps.toList
theorem len_ch (x : Str) : (ch x).length = x.length := by simp [ch, Str.length]
theorem ext_ch {x y : Str} (h : ch x = ch y) : x = y := by
  obtain ⟨a⟩ := x
  obtain ⟨b⟩ := y
  have : a = b := Array.toList_inj.mp h
  rw [this]
theorem ch_append (a b : Str) : ch (a ++ b) = ch a ++ ch b := by
  show (a ++ b).cps.toList = _
  rw [Str.cps_append, Array.toList_append]
theorem ch_one (c : Nat) : ch ⟨#[c]⟩ = [c] := rfl
theorem ch_nil {z : Str} (h : z.length = 0) : ch z = [] := by
  have := len_ch z
  rw [h] at this
  exact List.length_eq_zero_iff.mp this
theorem slice_eq (x : Str) (l u : Option Int) : Txt.slice x l u = StrLaws.sliceText x l u := rfl
theorem slice_to (x : Str) (j : Nat) : ch (Txt.slice x none (some (j : Int))) = (ch x).take j := by
  by_cases h : j ≤ x.length
  · rw [slice_eq, StrLaws.sliceText_to ⟨by omega, by simp [Str.length] at h ⊢; omega⟩]
    simp
  · have hn : Builtin.Str.strSliceIndices none (some (j : Int)) 1 x.length = Builtin.Str.strSliceIndices none (some ((x.length : Nat) : Int)) 1 x.length := by
      have e1 : ¬ ((j : Int) < 0) := by omega
      have e2 : ¬ (((x.length : Nat) : Int) < 0) := by omega
      have e3 : max (0 : Int) (min (j : Int) (x.length : Int)) = max 0 (min ((x.length : Nat) : Int) (x.length : Int)) := by omega
      simp [Builtin.Str.strSliceIndices, e1, e2, e3]
    have e : Txt.slice x none (some (j : Int)) = Txt.slice x none (some ((x.length : Nat) : Int)) := by
      unfold Txt.slice
      rw [hn]
    rw [e, slice_eq, StrLaws.sliceText_to ⟨by omega, by simp [Str.length]⟩]
    have e4 : (ch x).length ≤ j := by rw [len_ch]; omega
    rw [List.take_of_length_le e4]
    have e5 : x.cps.toList.take x.cps.size = x.cps.toList := List.take_of_length_le (by simp)
    simp [Str.length, e5]
theorem slice_from (x : Str) (i : Nat) : ch (Txt.slice x (some (i : Int)) none) = (ch x).drop i := by
  by_cases h : i ≤ x.length
  · rw [slice_eq, StrLaws.sliceText_from ⟨by omega, by simp [Str.length] at h ⊢; omega⟩]
    show ((x.cps.toList.drop (i : Int).toNat).take ((x.cps.toList.length : Int) - (i : Int)).toNat).toArray.toList = (ch x).drop i
    rw [List.toList_toArray, Int.toNat_natCast, List.take_of_length_le]
    rw [List.length_drop]
    omega
  · have hn : Builtin.Str.strSliceIndices (some (i : Int)) none 1 x.length = Builtin.Str.strSliceIndices (some ((x.length : Nat) : Int)) none 1 x.length := by
      have e1 : ¬ ((i : Int) < 0) := by omega
      have e2 : ¬ (((x.length : Nat) : Int) < 0) := by omega
      have e3 : max (0 : Int) (min (i : Int) (x.length : Int)) = max 0 (min ((x.length : Nat) : Int) (x.length : Int)) := by omega
      simp [Builtin.Str.strSliceIndices, e1, e2, e3]
    have e : Txt.slice x (some (i : Int)) none = Txt.slice x (some ((x.length : Nat) : Int)) none := by
      unfold Txt.slice
      rw [hn]
    rw [e, slice_eq, StrLaws.sliceText_from ⟨by omega, by simp [Str.length]⟩]
    have e4 : (ch x).length ≤ i := by rw [len_ch]; omega
    rw [List.drop_of_length_le e4]
    simp [Str.length]
/-! ### replace by nothing, join by nothing -/
def dropC (c : Nat) (l : List Nat) : List Nat := l.filter fun k => decide (k ≠ c)
theorem dropC_free (c : Nat) (l : List Nat) (h : c ∉ l) : dropC c l = l := by
  unfold dropC
  refine List.filter_eq_self.mpr fun a ha => decide_eq_true fun e => h (e ▸ ha)
theorem dropC_join (c : Nat) {z : Str} (hz : z.length = 0) : ∀ parts : List Str, (∀ p ∈ parts, c ∉ ch p) → dropC c (ch (Str.join ⟨#[c]⟩ parts)) = ch (Str.join z parts)
  | [], _ => rfl
  | [p], h => dropC_free c _ (h p (List.mem_singleton.mpr rfl))
  | p :: q :: r, h => by
    have ih := dropC_join c hz (q :: r) fun a ha => h a (List.mem_cons_of_mem _ ha)
    show dropC c (ch (p ++ ⟨#[c]⟩ ++ Str.join ⟨#[c]⟩ (q :: r))) = ch (p ++ z ++ Str.join z (q :: r))
    rw [ch_append, ch_append, ch_append, ch_append, ← ih, ch_nil hz, List.append_nil]
    unfold dropC
    rw [List.filter_append, List.filter_append]
    have e1 := dropC_free c _ (h p (List.mem_cons_self ..))
    unfold dropC at e1
    rw [e1]
    simp
theorem replace_drop {z : Str} (hz : z.length = 0) (x : Str) (c : Nat) : ch (Txt.replace x ⟨#[c]⟩ z) = dropC c (ch x) := by
  rw [StrLaws.replace_one, ← dropC_join c hz _ (StrLaws.split_free x c), StrLaws.join_split]
/-! ### the drawn signs and words -/
def poolS : Str := "abcdefghijklmnopqrstuvwxyz0123456789"
structure Signs (x : Str) : Prop where
  lo : 2 ≤ x.length
  hi : x.length ≤ 4
  nd : (ch x).Nodup
  sub : ∀ c ∈ ch x, c ∈ ch poolS
/-- after i turns -/
structure Drawn (i : Nat) (pool found : Str) : Prop where
  pl : pool.length + i = 36
  fl : found.length = i
  pn : (ch pool).Nodup
  fn : (ch found).Nodup
  ps : ∀ c ∈ ch pool, c ∈ ch poolS
  fs : ∀ c ∈ ch found, c ∈ ch poolS
  ap : ∀ c ∈ ch found, c ∉ ch pool
theorem pool_nodup : (ch poolS).Nodup := by decide +kernel
theorem pool_len : poolS.length = 36 := by decide +kernel
theorem Drawn.zero {e : Str} (he : e.length = 0) : Drawn 0 poolS e :=
  ⟨pool_len, he, pool_nodup, (by rw [ch_nil he]; exact List.nodup_nil), (fun _ h => h), (fun c h => by rw [ch_nil he] at h; exact absurd h (by simp)), (fun c h => by rw [ch_nil he] at h; exact absurd h (by simp))⟩
theorem filter_ne_length {c : Nat} : ∀ {l : List Nat}, l.Nodup → c ∈ l → (dropC c l).length + 1 = l.length := by
  intro l
  induction l with
  | nil => intro _ h; cases h
  | cons a r ih =>
    intro nd h
    obtain ⟨n1, n2⟩ := List.nodup_cons.mp nd
    unfold dropC at ih ⊢
    by_cases e : a = c
    · subst e
      have : r.filter (fun k => decide (k ≠ a)) = r := dropC_free a r n1
      rw [List.filter_cons, if_neg (by simp), this]
      rfl
    · have hc : c ∈ r := (List.mem_cons.mp h).resolve_left (fun z => e z.symm)
      rw [List.filter_cons, if_pos (by simp [e]), List.length_cons, List.length_cons, ih n2 hc]
theorem Drawn.step {i : Nat} {pool found z : Str} (d : Drawn i pool found) (hz : z.length = 0) {c : Nat} (hc : c ∈ ch pool) : Drawn (i + 1) (Txt.replace pool ⟨#[c]⟩ z) (found ++ ⟨#[c]⟩) := by
  have e := replace_drop hz pool c
  have l1 := filter_ne_length d.pn hc
  have l2 : (Txt.replace pool ⟨#[c]⟩ z).length = (dropC c (ch pool)).length := by rw [← len_ch, e]
  have l3 := len_ch pool
  refine ⟨by have := d.pl; omega, ?_, ?_, ?_, fun k hk => ?_, fun k hk => ?_, fun k hk => ?_⟩
  · rw [← len_ch, ch_append, List.length_append, len_ch, d.fl]; rfl
  · rw [e]; exact d.pn.filter _
  · rw [ch_append]
    refine List.nodup_append.mpr ⟨d.fn, by simp [ch], fun a ha b hb => ?_⟩
    have : b = c := by simpa [ch] using hb
    subst this
    rintro rfl
    exact d.ap a ha hc
  · rw [e] at hk
    exact d.ps k (List.mem_filter.mp hk).1
  · rw [ch_append] at hk
    rcases List.mem_append.mp hk with h | h
    · exact d.fs k h
    · have : k = c := by simpa [ch] using h
      subst this
      exact d.ps k hc
  · rw [e]
    intro hm
    obtain ⟨h1, h2⟩ := List.mem_filter.mp hm
    rw [ch_append] at hk
    rcases List.mem_append.mp hk with h | h
    · exact d.ap k h h1
    · have : k = c := by simpa [ch] using h
      subst this
      simp at h2
theorem Drawn.signs {i : Nat} {pool found : Str} (d : Drawn i pool found) (h1 : 2 ≤ i) (h2 : i ≤ 4) : Signs found := ⟨by rw [d.fl]; exact h1, by rw [d.fl]; exact h2, d.fn, d.fs⟩
/-- a barred word over the signs -/
structure Word (sg w : Str) : Prop where
  lo : 1 ≤ w.length
  hi : w.length ≤ 5
  sub : ∀ c ∈ ch w, c ∈ ch sg
/-! ### in -/
def inS (y x : Str) : Bool := !(Builtin.Str.occurrences x y 0 x.length 1).isEmpty
def bears (ws : List Str) (r : Str) : Bool := ws.any fun w => inS w r
/-! ### places -/
def takeS (w : Str) (n : Nat) : Str := Txt.slice w none (some (n : Int))
def addK (ks : List Str) (b : Str) : List Str := if b ∈ ks then ks else ks ++ [b]
def addP (ws : List Str) (ks : List Str) (b : Str) : List Str := if bears ws b = true then ks else addK ks b
theorem addP_len (ws ks : List Str) (b : Str) : (addP ws ks b).length ≤ ks.length + 1 := by
  unfold addP addK
  split
  · omega
  · split
    · omega
    · simp
def upTo (ws : List Str) (w : Str) (ks : List Str) (n : Nat) : List Str := ((List.range n).map fun i => takeS w (1 + i)).foldl (addP ws) ks
theorem upTo_succ (ws : List Str) (w : Str) (ks : List Str) (n : Nat) : upTo ws w ks (n + 1) = addP ws (upTo ws w ks n) (takeS w (1 + n)) := by
  unfold upTo
  rw [List.range_succ, List.map_append, List.foldl_append]
  rfl
theorem upTo_len (ws : List Str) (w : Str) (ks : List Str) : ∀ n, (upTo ws w ks n).length ≤ ks.length + n
  | 0 => Nat.le_refl _
  | n + 1 => by
    rw [upTo_succ]
    have := upTo_len ws w ks n
    have := addP_len ws (upTo ws w ks n) (takeS w (1 + n))
    omega
def addW (ws : List Str) (ks : List Str) (w : Str) : List Str := upTo ws w ks (w.length - 1)
def keysS (ws : List Str) (e : Str) (us : List Str) : List Str := us.foldl (addW ws) [e]
theorem keysS_len {ws : List Str} {e : Str} {us : List Str} (h : ∀ w ∈ us, w.length ≤ 5) : (keysS ws e us).length ≤ 1 + 4 * us.length := by
  have key : ∀ (us ks : List Str), (∀ w ∈ us, w.length ≤ 5) → (us.foldl (addW ws) ks).length ≤ ks.length + 4 * us.length := by
    intro us
    induction us with
    | nil => intro ks _; exact Nat.le_refl _
    | cons w us ih =>
      intro ks h
      have h1 := ih (addW ws ks w) fun v hv => h v (List.mem_cons_of_mem _ hv)
      have h2 := h w (List.mem_cons_self ..)
      have h3 := upTo_len ws w ks (w.length - 1)
      rw [List.foldl_cons, List.length_cons]
      unfold addW at h1
      unfold addW
      omega
  exact key us [e] h
theorem addK_nodup {ks : List Str} {b : Str} (h : ks.Nodup) : (addK ks b).Nodup := by
  unfold addK
  split
  · exact h
  · rename_i hb
    refine List.nodup_append.mpr ⟨h, by simp, fun a ha c hc => ?_⟩
    have : c = b := by simpa using hc
    subst this
    rintro rfl
    exact hb ha
theorem addP_nodup {ws ks : List Str} {b : Str} (h : ks.Nodup) : (addP ws ks b).Nodup := by
  unfold addP
  split
  · exact h
  · exact addK_nodup h
theorem upTo_nodup {ws : List Str} {w : Str} {ks : List Str} (h : ks.Nodup) : ∀ n, (upTo ws w ks n).Nodup
  | 0 => h
  | n + 1 => by rw [upTo_succ]; exact addP_nodup (upTo_nodup h n)
theorem keysS_nodup {ws : List Str} {e : Str} (us : List Str) : (keysS ws e us).Nodup := by
  have key : ∀ (us ks : List Str), ks.Nodup → (us.foldl (addW ws) ks).Nodup := by
    intro us
    induction us with
    | nil => intro ks h; exact h
    | cons w us ih => intro ks h; exact ih _ (upTo_nodup h _)
  exact key us [e] (by simp)
/-! ### sorted lists are one -/
def leS (a b : Str) : Prop := ¬ (b.cps.toList < a.cps.toList)
end Bs

set_option Elab.async false
set_option linter.all false
set_option maxRecDepth 100000
namespace L2
open PySem PySem.Spec PyProof.Rows
def blockCheck (sc scope : Scope) (N : List Str) (x : Str) (ys : List Str) (ix : List Nat) : Bool :=
  (match scope.kind with | .function => true | _ => false) &&
  (scope.names.all fun y => !decide (y.2 = .cell)) && (scope.names.all fun y => !decide (y.2 = .local) || decide (scope.names.lookup y.1 = some .local)) &&
  (scope.names.all fun y => !decide (y.2 = .free) || decide (sc.names.lookup y.1 = some .cell) || decide (sc.names.lookup y.1 = some .free)) &&
  decide (scope.names.lookup x = some .local) && decide ((x :: ys).Nodup) && decide (ix.length = ys.length) &&
  ((List.range ys.length).all fun j => match ys[j]?, ix[j]? with
    | some y, some i => decide (N[i]? = some y) && (decide (sc.names.lookup y = some .cell) || decide (sc.names.lookup y = some .free)) && decide (scope.names.lookup y = some .free)
    | _, _ => false)
theorem blockOk_of {X : Cx} {sc scope : Scope} {N : List Str} {x : Str} {ys : List Str} {ix : List Nat} (hsc : X.env.scope = sc) (hN : X.N = N) (h : blockCheck sc scope N x ys ix = true) : BlockOk X scope x ys ix := by
  unfold blockCheck at h
  simp only [Bool.and_eq_true] at h
  obtain ⟨⟨⟨⟨⟨⟨⟨h1, h2⟩, h3⟩, h4⟩, h5⟩, h6⟩, h7⟩, h8⟩ := h
  refine ⟨?_, fun y hy => ?_, fun y hy e => ?_, of_decide_eq_true h5, fun y hy e => ?_, of_decide_eq_true h6, of_decide_eq_true h7, fun j y hj => ?_⟩
  · cases e : scope.kind <;> rw [e] at h1 <;> first | rfl | cases h1
  · have := List.all_eq_true.mp h2 y hy
    simpa using this
  · have := List.all_eq_true.mp h3 y hy
    simpa [e] using this
  · have := List.all_eq_true.mp h4 y hy
    have q : sc.names.lookup y.1 = some .cell ∨ sc.names.lookup y.1 = some .free := by simpa [e] using this
    show X.env.scope.names.lookup y.1 = some .cell ∨ X.env.scope.names.lookup y.1 = some .free
    rw [hsc]
    exact q
  · have hl : j < ys.length := (List.getElem?_eq_some_iff.mp hj).1
    have := List.all_eq_true.mp h8 j (List.mem_range.mpr hl)
    rw [hj] at this
    cases e : ix[j]? with
    | none => rw [e] at this; cases this
    | some i =>
      rw [e] at this
      simp only [Bool.and_eq_true, Bool.or_eq_true, decide_eq_true_eq] at this
      exact ⟨i, rfl, by rw [hN]; exact this.1.1, by rw [hsc]; exact this.1.2, this.2⟩
/-- a comprehension without tests -/
theorem comp_map {J : It} {Ok : Hp → Prop} {xs : List V} {l : Addr} {σf : St} {te : TE} {H : Hp} {Q : Hp → Prop} (g : V → V) (hJ : ItIs J Ok xs) (hl : H l = none) (hz : xs.length ≤ sizeLine) (hOk : ∀ H', Same H H' → Ok H')
    (he : ∀ x H3 Q', x ∈ xs → Same H H3 → (∀ H', Same H3 H' → Q' (g x) H') → te (some x :: σf) H3 Q')
    (hd : ∀ H', Same H H' → H' l = some (.lst (xs.map g)) → Q H') : CompW J l σf tYes te H Q :=
  comp_pure (fun _ => true) g hJ hl hz hOk (fun x H3 Q' _ _ q => q H3 (Same.refl _)) (fun x H3 Q' hx _ s q => he x H3 Q' hx s q) (fun H' s h => hd H' s (by rw [h, List.filter_eq_self.mpr (fun _ _ => rfl)]))
/-- a def of the text, as a name of the module -/
structure FnAt (K : PySem.W.Frag) (mg : Str → Option Value) (nm : Str) (st : Stmt) (ps : List Str) (f : Addr) (fd : FuncData) : Prop where
  F : Fun K nm nm st f fd
  b : Binds K fd ps []
  g : mg nm = some (.ref f)
theorem op_in_seqK {X : Cx} {K : PySem.W.Frag} (hK : X.K = K) : OpR X (compareOp .In) (rIn K false) := by
  subst hK
  exact op_in_seq
theorem op_notIn_seqK {X : Cx} {K : PySem.W.Frag} (hK : X.K = K) : OpR X (compareOp .NotIn) (rIn K true) := by
  subst hK
  exact op_notIn_seq
theorem ix_listK {X : Cx} {K : PySem.W.Frag} (hK : X.K = K) : IxR X (rIxL K) := by
  subst hK
  exact ix_list
theorem pe_fldK {X : Cx} {K : PySem.W.Frag} {e : Expr} {f : Str} {pos : Pos} {ta : TE} (hK : X.K = K) (he : PE X e ta) (hb : attributeBase e f X.env (eval e X.env) = eval e X.env) : PE X (.Attribute e f pos) (tFld K ta f) := by
  subst hK
  exact pe_fld he hb
theorem small16 {n : Nat} (h : n ≤ 1000000) : n ≤ sizeLine := Nat.le_trans h (by rw [sizeLine_eq]; decide)
def gIn (r : Str) : V → V := fun v => match v with
  | .str y => .bl (Bs.inS y r)
  | _ => .non
/-- dicts whose keys are texts and whose values are True -/
def dTrue (ks : List Str) : List (Key × V) := ks.map fun k => ((Sum.inr k : Key), V.bl true)
end L2

set_option Elab.async false
set_option linter.all false
set_option maxRecDepth 100000
namespace L2
open PySem PySem.Spec PyProof.Rows
section
variable {X : Cx}
end
end L2

set_option Elab.async false
set_option linter.all false
set_option maxRecDepth 100000
set_option maxHeartbeats 4000000
namespace L2
open PySem
structure MthAt (K : PySem.W.Frag) (C : Addr) (nm qual : Str) (st : Stmt) (ps : List Str) (f : Addr) (fd : FuncData) : Prop where
  F : Fun K nm qual st f fd
  b : Binds K fd ps []
  m : Meth K C nm f
end L2
namespace Sx
open PySem L2 Bs
theorem bAll : bootBuiltins "all" = some (.builtin "all") := by decide +kernel
theorem bIsi : bootBuiltins "isinstance" = some (.builtin "isinstance") := by decide +kernel
theorem bList : bootBuiltins "list" = some (.type "list") := by decide +kernel
section
variable {P : Program} {w : World} {K : PySem.W.Frag} {mg : Str → Option Value} {base : Heap} {f : Addr} {fd : FuncData}
/-! ### all_among -/
def spAmong : Sp := fun vs H Q _ => ∃ a b : Str, vs = [.str a, .str b] ∧ a.length ≤ 1000 ∧ ∀ H', Same H H' → Q (.bl ((ch a).all fun c => decide (c ∈ ch b))) H'
/-! ### bears_barred -/
def spBears (K : PySem.W.Frag) : Sp := fun vs H Q _ => ∃ (r : Str) (a : Addr) (ws : List Str), vs = [.str r, .ref a] ∧ SqL K H a (ws.map V.str) ∧ ws.length ≤ 1000 ∧ ∀ H', Same H H' → Q (.bl (bears ws r)) H'
end
end Sx

namespace Sx
open PySem L2 Bs
section
variable {P : Program} {w : World} {K : PySem.W.Frag} {mg : Str → Option Value} {base : Heap} {f : Addr} {fd : FuncData}
/-! ### are_signs -/
def spAre : Sp := fun vs H Q _ => ∃ x : Str, vs = [.str x] ∧ Signs x ∧ ∀ H', Same H H' → Q (.bl true) H'
/-! ### is_word -/
def spIsW : Sp := fun vs H Q _ => ∃ t g : Str, vs = [.str t, .str g] ∧ Word g t ∧ ∀ H', Same H H' → Q (.bl true) H'
/-! ### check_barred -/
def spCheck (K : PySem.W.Frag) : Sp := fun vs H Q _ => ∃ (a : Addr) (g : Str) (ws : List Str), vs = [.ref a, .str g] ∧ SqL K H a (ws.map V.str) ∧ ws.length ≤ 6 ∧ (∀ w ∈ ws, Word g w) ∧ ∀ H', Same H H' → Q .non H'
end
end Sx

namespace Bs
open PySem
def dropS (r : Str) (n : Nat) : Str := Txt.slice r (some (n : Int)) none
theorem dropS_all (r : Str) : dropS r r.length = "" := by
  refine ext_ch ?_
  show ch (Txt.slice r (some (r.length : Int)) none) = []
  rw [slice_from]
  exact List.drop_of_length_le (Nat.le_of_eq (len_ch r))
def lendN (ps : List Str) (r : Str) : Nat := ((List.range (r.length + 1)).find? fun n => decide (dropS r n ∈ ps)).getD 0
def lend (ps : List Str) (r : Str) : Str := dropS r (lendN ps r)
theorem lendN_eq {ps : List Str} {r : Str} {n : Nat} (h1 : dropS r n ∈ ps) (h2 : ∀ m, m < n → dropS r m ∉ ps) (h3 : n ≤ r.length) : lendN ps r = n := by
  unfold lendN
  have e : (List.range (r.length + 1)).find? (fun n => decide (dropS r n ∈ ps)) = some n := by
    rw [List.find?_range_eq_some]
    exact ⟨by simpa using h1, by simp; omega, fun j hj => by simpa using h2 j hj⟩
  rw [e]
  rfl
end Bs
namespace L2
open PySem Bs
/-- where a sign leads from a place -/
def mvV (ws ps : List Str) (p : Str) (c : Nat) : V := if bears ws (p ++ ⟨#[c]⟩) = true then .non else .str (lend ps (p ++ ⟨#[c]⟩))
def rowOf (g : Str) (ws ps : List Str) (p : Str) : List (Key × V) := (ch g).map fun c => ((Sum.inr (⟨#[c]⟩ : Str) : Key), mvV ws ps p c)
end L2
namespace Sx
open PySem L2 Bs
section
variable {P : Program} {w : World} {K : PySem.W.Frag} {mg : Str → Option Value} {base : Heap} {f : Addr} {fd : FuncData}
/-! ### sorted_places -/
def spSorted (K : PySem.W.Frag) : Sp := fun vs H Q _ => ∃ (a : Addr) (ws : List Str), vs = [.ref a] ∧ SqL K H a (ws.map V.str) ∧ ws.length ≤ 6 ∧ (∀ w ∈ ws, w.length ≤ 5) ∧
  ∀ (l : Addr) (ss : List Str) (H' : Hp), Same H H' → H l = none → H' l = some (.lst (ss.map V.str)) → ss.Perm (keysS ws "" ws) → PyProof.Rows.sortedS ss = true → Q (.ref l) H'
/-! ### longest_end -/
def spLong (K : PySem.W.Frag) : Sp := fun vs H Q _ => ∃ (r : Str) (a : Addr) (ps : List Str), vs = [.str r, .ref a] ∧ SqL K H a (ps.map V.str) ∧ ("" : Str) ∈ ps ∧ r.length ≤ 1000 ∧ ∀ H', Same H H' → Q (.str (lend ps r)) H'
/-! ### moves_from -/
def spMoves (K : PySem.W.Frag) : Sp := fun vs H Q _ => ∃ (p g : Str) (a b : Addr) (ws ps : List Str), vs = [.str p, .str g, .ref a, .ref b] ∧ SqL K H a (ws.map V.str) ∧ SqL K H b (ps.map V.str) ∧ ("" : Str) ∈ ps ∧ p.length ≤ 100 ∧ g.length ≤ 10 ∧ (ch g).Nodup ∧ ws.length ≤ 1000 ∧
  ∀ (d : Addr) (H' : Hp), Same H H' → H d = none → H' d = some (.dK (rowOf g ws ps p)) → Q (.ref d) H'
end
end Sx

namespace L2
open PySem Bs
/-- does a row of moves lead into the lot -/
def leads (es : List (Key × V)) (lot : List Str) : Bool := (es.map (·.2)).any fun e => inV e (lot.map V.str)
/-- the greatest lot -/
structure Live (ks : List Str) (es : Str → List (Key × V)) (ls : List Str) : Prop where
  sub : ls.Sublist ks
  goes : ∀ k ∈ ls, leads (es k) ls = true
  most : ∀ lot : List Str, (∀ k ∈ lot, k ∈ ks ∧ leads (es k) lot = true) → ∀ k ∈ lot, k ∈ ls
/-- the moves of a band: its places and the dicts of their rows -/
def dRows (mv : List (Str × Addr)) : List (Key × V) := mv.map fun m => ((Sum.inr m.1 : Key), V.ref m.2)
end L2
namespace Sx
open PySem L2 Bs
section
variable {P : Program} {w : World} {K : PySem.W.Frag} {mg : Str → Option Value} {base : Heap} {f : Addr} {fd : FuncData}
/-! ### leads_into -/
def gLot (ls : List V) : V → V := fun v => .bl (inV v ls)
def spLeads (K : PySem.W.Frag) : Sp := fun vs H Q _ => ∃ (a b : Addr) (es ls : List V), vs = [.ref a, .ref b] ∧ SqL K H a es ∧ SqL K H b ls ∧ es.all flatV = true ∧ ls.all flatV = true ∧ es.length ≤ 1000 ∧ ∀ H', Same H H' → Q (.bl (es.any fun e => inV e ls)) H'
/-! ### live_among -/
def spLive (K : PySem.W.Frag) : Sp := fun vs H Q _ => ∃ (d : Addr) (mv : List (Str × Addr)) (es : Str → List (Key × V)), vs = [.ref d] ∧ H d = some (.dK (dRows mv)) ∧ mv.length ≤ 1000 ∧ (∀ m ∈ mv, H m.2 = some (.dK (es m.1))) ∧ (∀ k, ((es k).map (·.2)).all flatV = true) ∧ (∀ k, (es k).length ≤ 1000) ∧
  ∀ (l : Addr) (ls : List Str) (H' : Hp), Same H H' → H l = none → H' l = some (.lst (ls.map V.str)) → Live (mv.map (·.1)) es ls → Q (.ref l) H'
end
end Sx

namespace Sx
open PySem L2 Bs
/-! ### a band -/
def flds (g : Str) (b d q : Addr) : List (Str × V) := [("signs", .str g), ("barred", .ref b), ("moves", .ref d), ("lasting", .ref q)]
def fl1 (g : Str) : List (Str × V) := [("signs", .str g)]
def fl2 (g : Str) (b : Addr) : List (Str × V) := [("signs", .str g), ("barred", .ref b)]
def fl3 (g : Str) (b d : Addr) : List (Str × V) := [("signs", .str g), ("barred", .ref b), ("moves", .ref d)]
/-- what stands at x is a band -/
structure BandAt (C : Addr) (H : Hp) (x : Addr) (g : Str) (ws ss ls : List Str) : Prop where
  ex : ∃ (dx b d q : Addr) (mv : List (Str × Addr)), H x = some (.ins C dx (flds g b d q)) ∧ H b = some (.lst (ws.map V.str)) ∧ H d = some (.dK (dRows mv)) ∧ mv.map (·.1) = ss ∧ (∀ m ∈ mv, H m.2 = some (.dK (rowOf g ws ss m.1))) ∧ H q = some (.lst (ls.map V.str))
  pm : ss.Perm (keysS ws "" ws)
  so : PyProof.Rows.sortedS ss = true
  lv : Live ss (rowOf g ws ss) ls
theorem BandAt.same {C : Addr} {H H' : Hp} {x : Addr} {g : Str} {ws ss ls : List Str} (B : BandAt C H x g ws ss ls) (s : Same H H') : BandAt C H' x g ws ss ls := by
  obtain ⟨⟨dx, b, d, q, mv, h1, h2, h3, h4, h5, h6⟩, p, o, l⟩ := B
  exact ⟨⟨dx, b, d, q, mv, s _ _ h1, s _ _ h2, s _ _ h3, h4, fun m hm => s _ _ (h5 m hm), s _ _ h6⟩, p, o, l⟩
section
variable {P : Program} {w : World} {K : PySem.W.Frag} {mg : Str → Option Value} {base : Heap} {f : Addr} {fd : FuncData}
def spInit (K : PySem.W.Frag) (C : Addr) : Sp := fun vs H Q _ => ∃ (x dx : Addr) (g : Str) (a : Addr) (ws : List Str), vs = [.ref x, .str g, .ref a] ∧ H x = some (.ins C dx []) ∧ SqL K H a (ws.map V.str) ∧ Signs g ∧ ws.length ≤ 6 ∧ (∀ w ∈ ws, Word g w) ∧
  ∀ (ss ls : List Str) (H' : Hp), BandAt C H' x g ws ss ls → (∀ b o, H b = some o → b ≠ x → H' b = some o) → Q .non H'
/-! ### places -/
def spPlaces (C : Addr) : Sp := fun vs H Q _ => ∃ (x : Addr) (g : Str) (ws ss ls : List Str), vs = [.ref x] ∧ BandAt C H x g ws ss ls ∧ ∀ (l : Addr) (H' : Hp), Same H H' → H l = none → H' l = some (.lst (ss.map V.str)) → Q (.ref l) H'
end
end Sx

namespace Sx
open PySem L2 Bs
section
variable {P : Program} {w : World} {K : PySem.W.Frag} {mg : Str → Option Value} {base : Heap} {f : Addr} {fd : FuncData}
/-! ### _law_cell -/
def cellN (ns : List Int) (p : Int) : Int := ns.getD p.toNat 0
def spCell (K : PySem.W.Frag) : Sp := fun vs H Q _ => ∃ (a : Addr) (ns : List Int) (p : Int), vs = [.ref a, .int p] ∧ SqL K H a (ns.map V.int) ∧ 0 ≤ p ∧ Q (.int (cellN ns p)) H
/-! ### _law_draw -/
def spDraw : Sp := fun vs H Q _ => ∃ c t m : Int, vs = [.int c, .int t, .int m] ∧ 0 ≤ t ∧ t ≤ 100000 ∧ 0 < m ∧ ∀ d, 0 ≤ d → d < m → Q (.int d) H
/-! ### _law_signs -/
def spSigns : Sp := fun vs H Q _ => ∃ c : Int, vs = [.int c] ∧ ∀ (x : Str) (H' : Hp), Signs x → Same H H' → Q (.str x) H'
end
end Sx

namespace L2
open PySem PySem.Spec PyProof.Rows
/-- a comprehension whose items are known by a property alone -/
theorem comp_rel {J : It} {Ok : Hp → Prop} {xs : List V} {l : Addr} {σf : St} {te : TE} {H : Hp} {Q : Hp → Prop} (R : V → Prop) (hJ : ItIs J Ok xs) (hl : H l = none) (hz : xs.length ≤ sizeLine) (hOk : ∀ H', Same H H' → Ok H')
    (he : ∀ x H3 Q', x ∈ xs → Same H H3 → (∀ y H', R y → Same H3 H' → Q' y H') → te (some x :: σf) H3 Q')
    (hd : ∀ ys H', Same H H' → ys.length = xs.length → (∀ y ∈ ys, R y) → H' l = some (.lst ys) → Q H') : CompW J l σf tYes te H Q := by
  refine ⟨fun i m ys H2 => m = xs.length - i ∧ i ≤ xs.length ∧ Same H H2 ∧ H2 l = some (.lst ys) ∧ ys.length = i ∧ ∀ y ∈ ys, R y, ⟨xs.length, by simp, Nat.zero_le _, Same.upd hl, upd_same, rfl, fun y hy => (nomatch hy)⟩, ?_⟩
  rintro i m ys H2 ⟨rfl, hi, s2, h2, e2, hR⟩
  refine ⟨h2, ?_⟩
  by_cases hlt : i < xs.length
  · refine .inr ⟨hJ.go i H2 (hOk _ s2) hlt, by omega, fun x H3 y => ?_⟩
    obtain ⟨e, hx⟩ := hJ.yld i H2 x H3 (hOk _ s2) hlt y
    subst e
    unfold tYes
    dsimp only
    rw [if_pos rfl]
    refine he x _ _ (List.mem_of_getElem? hx) s2 fun z H5 hz s5 => ?_
    refine ⟨s5 _ _ h2, xs.length - (i + 1), by omega, rfl, hlt, ?_, upd_same, by simp [e2], fun y hy => ?_⟩
    · intro b o e
      rw [upd_ne (ne_of_none e hl)]
      exact s5 _ _ (s2 _ _ e)
    · rcases List.mem_append.mp hy with q | q
      · exact hR y q
      · have : y = z := by simpa using q
        subst this
        exact hz
  · have e : i = xs.length := by omega
    subst e
    exact .inl ⟨hJ.stop H2 (hOk _ s2), hd ys H2 s2 e2 hR h2⟩
theorem strs_of {R : Str → Prop} : ∀ {ys : List V}, (∀ y ∈ ys, ∃ t, y = .str t ∧ R t) → ∃ ts : List Str, ys = ts.map V.str ∧ ∀ t ∈ ts, R t
  | [], _ => ⟨[], rfl, fun _ h => nomatch h⟩
  | y :: ys, h => by
    obtain ⟨t, rfl, ht⟩ := h y (List.mem_cons_self ..)
    obtain ⟨ts, rfl, hts⟩ := strs_of (R := R) (ys := ys) fun y hy => h y (List.mem_cons_of_mem _ hy)
    refine ⟨t :: ts, rfl, fun u hu => ?_⟩
    rcases List.mem_cons.mp hu with rfl | hu
    · exact ht
    · exact hts u hu
end L2
namespace Sx
open PySem L2 Bs
section
variable {P : Program} {w : World} {K : PySem.W.Frag} {mg : Str → Option Value} {base : Heap} {f : Addr} {fd : FuncData}
/-! ### _law_word -/
def spWord : Sp := fun vs H Q _ => ∃ (c : Int) (g : Str), vs = [.int c, .str g] ∧ 1 ≤ g.length ∧ g.length ≤ 10 ∧ ∀ (x : Str) (H' : Hp), Word g x → Same H H' → Q (.str x) H'
/-! ### _law_words -/
def spWords (K : PySem.W.Frag) : Sp := fun vs H Q _ => ∃ (a : Addr) (ns : List Int) (p : Int) (g : Str) (m : Int), vs = [.ref a, .int p, .str g, .int m] ∧ SqL K H a (ns.map V.int) ∧ 0 ≤ p ∧ 0 ≤ m ∧ m ≤ 100 ∧ 1 ≤ g.length ∧ g.length ≤ 10 ∧
  ∀ (l : Addr) (ws : List Str) (H' : Hp), Same H H' → H l = none → H' l = some (.lst (ws.map V.str)) → (ws.length : Int) ≤ m → (∀ w ∈ ws, Word g w) → Q (.ref l) H'
end
end Sx

namespace Sx
open PySem L2 Bs
section
variable {P : Program} {w : World} {K : PySem.W.Frag} {mg : Str → Option Value} {base : Heap} {f : Addr} {fd : FuncData}
/-! ### _law_due -/
/-! ### _law_alike -/
def spAlike : Sp := fun vs H Q _ => ∃ (a b : Addr) (ss : List Str), vs = [.ref a, .ref b] ∧ H a = some (.lst (ss.map V.str)) ∧ H b = some (.lst (ss.map V.str)) ∧ ss.length ≤ 1000 ∧ Q (.bl true) H
end
end Sx

namespace L2
open PySem Bs
/-! ### the greatest lot, by rounds -/
def roundF (ss : List Str) (es : Str → List (Key × V)) (lot : List Str) : List Str := ss.filter fun p => leads (es p) lot
def rounds (ss : List Str) (es : Str → List (Key × V)) : Nat → List Str
  | 0 => ss
  | n + 1 => roundF ss es (rounds ss es n)
end L2
namespace Sx
open PySem L2 Bs
theorem BandAt.nd {C : Addr} {H : Hp} {x : Addr} {g : Str} {ws ss ls : List Str} (B : BandAt C H x g ws ss ls) : ss.Nodup := B.pm.nodup_iff.mpr (keysS_nodup ws)
section
variable {P : Program} {w : World} {K : PySem.W.Frag} {mg : Str → Option Value} {base : Heap} {f : Addr} {fd : FuncData}
/-! ### live -/
def spLiveM (C : Addr) : Sp := fun vs H Q _ => ∃ (x : Addr) (g : Str) (ws ss ls : List Str), vs = [.ref x] ∧ BandAt C H x g ws ss ls ∧ ∀ (l : Addr) (H' : Hp), Same H H' → H l = none → H' l = some (.lst (ls.map V.str)) → Q (.ref l) H'
/-! ### check_place, led -/
def spCP (C : Addr) : Sp := fun vs H Q _ => ∃ (x : Addr) (p : Str) (g : Str) (ws ss ls : List Str), vs = [.ref x, .str p] ∧ BandAt C H x g ws ss ls ∧ p ∈ ss ∧ Q .non H
def spLed (C : Addr) : Sp := fun vs H Q _ => ∃ (x : Addr) (p : Str) (c : Nat) (g : Str) (ws ss ls : List Str), vs = [.ref x, .str p, .str ⟨#[c]⟩] ∧ BandAt C H x g ws ss ls ∧ p ∈ ss ∧ c ∈ ch g ∧ Q (mvV ws ss p c) H
/-! ### _law_on -/
def spOn (K : PySem.W.Frag) (C : Addr) : Sp := fun vs H Q _ => ∃ (x lp : Addr) (g : Str) (ws ss ls : List Str), vs = [.ref x, .str g, .ref lp] ∧ BandAt C H x g ws ss ls ∧ SqL K H lp (ss.map V.str) ∧ g.length ≤ 10 ∧ ss.length ≤ 1000 ∧
  ∀ (l : Addr) (H' : Hp), Same H H' → H l = none → H' l = some (.lst (ls.map V.str)) → Q (.ref l) H'
def gLed (ws ss : List Str) (p : Str) (lot : List Str) : V → V := fun v => match v with
  | .str z => .bl (inV (mvV ws ss p (z.cps.getD 0 0)) (lot.map V.str))
  | _ => .non
end
end Sx
namespace Sx
open PySem L2 Bs
/-! ### what the top has written -/
structure Raw (K : PySem.W.Frag) (nm qual : Str) (st : Stmt) (f : Addr) : Prop where
  ex : ∃ (oc : Value) (od : Option Addr) (kV doc pm : Value) (an : Option Addr) (cdv ct : Value) (osl : Array (Option Value)),
    K.lookup f = some ⟨oc, od, .func (PySem.W.fnOf nm qual (defArgs st) (defBody st) (defScope st) .none kV doc pm an cdv ct), osl⟩ ∧ PySem.W.codeIn K cdv qual = true
  kp : PySem.W.keepIn K (.ref f) = true
theorem raw_mk {K : PySem.W.Frag} {nm qual : Str} {st : Stmt} {f : Addr} {oc : Value} {od an : Option Addr} {osl : Array (Option Value)} {kV doc pm cdv ct : Value} (l : K.lookup f = some ⟨oc, od, .func (PySem.W.fnOf nm qual (defArgs st) (defBody st) (defScope st) .none kV doc pm an cdv ct), osl⟩)
    (c : PySem.W.codeIn K cdv qual = true) (k : PySem.W.keepIn K (.ref f) = true) : Raw K nm qual st f := ⟨⟨oc, od, kV, doc, pm, an, cdv, ct, osl, l, c⟩, k⟩
theorem Raw.fn {K : PySem.W.Frag} {nm qual : Str} {st : Stmt} {f : Addr} {ps : List Str} (R : Raw K nm qual st f)
    (h : ∀ (kV doc pm : Value) (an : Option Addr) (cdv ct : Value) (us : List Value), us.length = ps.length → bindArgs (PySem.W.fnOf nm qual (defArgs st) (defBody st) (defScope st) .none kV doc pm an cdv ct) ⟨us, []⟩ = pure (ps.zip us)) :
    ∃ fd, Fun K nm qual st f fd ∧ Binds K fd ps [] := by
  obtain ⟨⟨oc, od, kV, doc, pm, an, cdv, ct, osl, l, c⟩, k⟩ := R
  have F := fun_mk (st := st) l c k
  exact ⟨_, F, F.binds h⟩
theorem Raw.at_ {K : PySem.W.Frag} {nm : Str} {st : Stmt} {f : Addr} {ps : List Str} {mg : Str → Option Value} {hp : Heap} (X : K.In hp) (G : hp.Ns mainGlobals mg) (a : PySem.W.nsIn K mainGlobals nm = some (some (.ref f))) (R : Raw K nm nm st f)
    (h : ∀ (kV doc pm : Value) (an : Option Addr) (cdv ct : Value) (us : List Value), us.length = ps.length → bindArgs (PySem.W.fnOf nm nm (defArgs st) (defBody st) (defScope st) .none kV doc pm an cdv ct) ⟨us, []⟩ = pure (ps.zip us)) :
    ∃ fd, FnAt K mg nm st ps f fd := by
  obtain ⟨fd, F, b⟩ := R.fn h
  exact ⟨fd, F, b, PySem.W.mg_of X G a⟩
def spLaw (K : PySem.W.Frag) : Sp := fun vs H Q _ => ∃ (a : Addr) (ns : List Int), vs = [.ref a] ∧ SqL K H a (ns.map V.int) ∧ ns.length ≤ 63 ∧ ∀ H', Q (.bl true) H'
end Sx

set_option Elab.async false
set_option linter.all false
set_option maxRecDepth 100000
set_option maxHeartbeats 4000000
namespace L2
open PySem PySem.Spec PyProof.Rows
section
variable {X : Cx} {st : Stmt} {rest : List Stmt} {t u : TS}
/-- a statement and what follows, by what holds between them -/
def tCut (t u : TS) : TS := fun D σ H => ∃ Z : St → Hp → Prop, t { D with nx := Z } σ H ∧ ∀ σ' H', Z σ' H' → u D σ' H'
end
end L2
namespace Sx
open PySem L2 Bs
/-- one sign as a text -/
def one (c : Nat) : Str := ⟨#[c]⟩
/-- a new object and its dict leave the rest as it was -/
theorem made_same {Hx : Hp} {x dx : Addr} {o1 o2 : HO} (nx : Hx x = none) (ndx : Hx dx = none) : Same Hx (upd (upd Hx dx o1) x o2) := fun b o e => by rw [upd_ne (ne_of_none e nx), upd_ne (ne_of_none e ndx)]; exact e
theorem BandAt.few {C : Addr} {H : Hp} {x : Addr} {g : Str} {ws ss ls : List Str} (B : BandAt C H x g ws ss ls) (hl : ws.length ≤ 6) (hw : ∀ w ∈ ws, Word g w) : ss.length ≤ 25 := by
  have := keysS_len (ws := ws) (e := "") (us := ws) fun w hw' => (hw w hw').hi
  rw [B.pm.length_eq]; omega
end Sx

set_option Elab.async false
set_option linter.all false
set_option maxRecDepth 100000
set_option maxHeartbeats 4000000
namespace L2
open PySem PySem.Spec PyProof.Rows PySem.W
section
variable {prog : Program} {w : World} {A : Around} {R : Result → Shared → Prop} {h : Heap} {g : Array GenState} {d : Drawn} {t : Nat} {os : OsState}
variable {nm q : Str} {C N : Addr} {bs bm bmB : List Value} {hdct : Bool} {sn : List Str} {sub : List Value} {ab : Bool} {col : Option Bool} {dd : Option Addr} {k0 k1 k2 k3 k5 : Option Value} {B newId initId : String}
/-- the object of a new exception: its arguments' tuple at t -/
abbrev excObj (C t : Addr) : Obj := { cls := .ref C, data := .fields #[.ref t, .none, .none, .none, .bool false, .none] }
abbrev tupObj (vs : List Value) : Obj := { cls := .type "tuple", data := .seq vs.toArray }
end
end L2

set_option Elab.async false
set_option linter.all false
set_option maxRecDepth 100000
set_option maxHeartbeats 4000000
namespace L2
open PySem PySem.Spec PyProof.Rows PySem.W
open Builtin Builtin.ObjectAttr
/-- the classes above an own error class C under BandError (at CB) -/
abbrev bmV : List Value := [.type "ValueError", .type "Exception", .type "BaseException", .type "object"]
abbrev bmX (CB : Addr) : List Value := .ref CB :: bmV
section
variable {prog : Program} {w : World} {A : Around} {E : Value → Shared → Prop} {s : Shared} {K : PySem.W.Frag} {x dx C CB f : Addr} {mA : Str → Option Value} {name : Str} {v : Value} {R : Result → Shared → Prop}
end
end L2

set_option Elab.async false
set_option linter.all false
set_option maxRecDepth 100000
set_option maxHeartbeats 4000000
namespace L2
open PySem PySem.Spec PyProof.Rows PySem.W
open Builtin Builtin.ObjectAttr
section
variable {prog : Program} {w : World} {A : Around} {E : Value → Shared → Prop} {s : Shared} {K : PySem.W.Frag} {x dx C CB f : Addr} {mA : Str → Option Value} {name : Str} {v : Value} {R : Result → Shared → Prop}
end
end L2

set_option Elab.async false
set_option linter.all false
set_option maxRecDepth 100000
set_option maxHeartbeats 4000000
namespace L2
open PySem PySem.Spec PyProof.Rows PySem.W
open Builtin Builtin.ObjectAttr
section
variable {prog : Program} {w : World} {A : Around} {E : Value → Shared → Prop} {s : Shared} {K : PySem.W.Frag} {x dx C CB f : Addr} {mA : Str → Option Value} {name : Str} {v : Value} {R : Result → Shared → Prop} {nm q : Str} {N : Addr} {bs : List Value} {sn : List Str} {sub : List Value} {ab : Bool} {col : Option Bool} {dd : Option Addr} {k0 k1 k2 k3 k5 : Option Value}
/-- ValueError.__init__ of a new error: its arguments' tuple is another one -/
theorem xinit_code {t : Addr} {u : Value} (X : K.In s.heap) (hx : s.heap.get? x = some (excObj C t)) (hk : K.lookup C = some (excClassObj nm q C N bs (bmX CB) true sn sub ab col dd k0 k1 k2 k3 k5 "ValueError.__new__"))
    (h : ∀ h' t', (∀ b o, b ≠ x → s.heap.get? b = some o → h'.get? b = some o) → h'.get? x = some (excObj C t') → R (.ok (.ret .none)) { s with heap := h' }) :
    codeAny (model prog w) A (.call (.builtin "ValueError.__init__") ⟨[.ref x, u], []⟩) R s := by
  have F := PySem.F.excBase_ValueError
  have hC := X _ _ hk
  have J : InstAt s.heap x (excObj C t) C none := ⟨hx, rfl, rfl, trivial⟩
  have sub : Looks (model prog w) s.heap (isInstance (.ref x) (.type "ValueError")) true := J.type.andThen (looks_mroIn X (by unfold mroIn clsIn; rw [hk]; rfl))
  refine codeAny_call_builtin F.init.plain F.initEntry ?_
  simp only [checkBuiltinCall, F.initKind, F.initSplit, F.initRow]
  refine wpAny_bind (sub.here ?_)
  simp only [Bool.not_true, Bool.false_eq_true, if_false]
  have hshort := F.noStar
  obtain ⟨hh, g, d, tk, os⟩ := s
  repeat (first | with_reducible refine wpAny_loadPart_at hC ?_ | wp_step)
  have hxs : x ≠ hh.objs.size := Nat.ne_of_lt (Heap.lt_size hx)
  refine h _ hh.objs.size (fun b o hb e => ?_) ?_
  · rw [Heap.get?_update_other _ _ (Ne.symm hb)]
    exact Heap.get?_push_of_some _ e
  · exact Heap.get?_update_self _ (Heap.get?_push_of_some _ hx) rfl
end
end L2

set_option Elab.async false
set_option linter.all false
set_option maxRecDepth 100000
set_option maxHeartbeats 4000000
namespace L2
open PySem PySem.Spec PyProof.Rows
/-- an error on its way: its object (and its traceback's head) is younger than lo and not tracked -/
structure Fly (lo : Nat) (H : Hp) (h : Heap) (e C : Addr) (od : Option Addr) : Prop where
  ge : lo ≤ e
  nt : H e = none
  ob : ∃ vs sl, h.get? e = some ⟨.ref C, od, .fields vs, sl⟩ ∧ 1 < vs.size ∧
    (vs[1]? = some .none ∨ ∃ T oT ts, vs[1]? = some (.ref T) ∧ lo ≤ T ∧ H T = none ∧ T ≠ e ∧ h.get? T = some oT ∧ oT.data = .fields ts ∧ ts[3]? = some .none)
theorem Fly.low {lo lo' : Nat} {H : Hp} {h : Heap} {e C : Addr} {od : Option Addr} (F : Fly lo H h e C od) (hl : lo' ≤ lo) : Fly lo' H h e C od := by
  obtain ⟨g, n, vs, sl, h1, h2, h3⟩ := F
  refine ⟨Nat.le_trans hl g, n, vs, sl, h1, h2, ?_⟩
  rcases h3 with h3 | ⟨T, oT, ts, a, b, c, d⟩
  · exact .inl h3
  · exact .inr ⟨T, oT, ts, a, Nat.le_trans hl b, c, d⟩
section
variable {M : Model} {A : Around} {E : Value → Shared → Prop} {s : Shared} {base : Heap} {env : Env} {outer : List Env} {L e C : Addr} {od : Option Addr} {lo : Nat} {H : Hp}
/-- what is kept where an error passes a frame -/
structure Past (lo : Nat) (H : Hp) (fs : List Addr) (h h' : Heap) : Prop where
  keep : ∀ b o, h.get? b = some o → (b < lo ∨ H b ≠ none) → b ∉ fs → h'.get? b = some o
  slot : ∀ b o, h.get? b = some o → b ∈ fs → ∃ sl, h'.get? b = some { o with slots := sl }
theorem fly_entry {oe : Obj} {vs : Array Value} {head : Value} {hadNext : Bool} {Q : Unit → Shared → Prop}
    (hfr : A.frames = some (env :: outer)) (hl : s.heap.FunFrames base (env :: outer)) (hf : env.frame = some L) (hlo : lo ≤ s.heap.objs.size) (hfree : ∀ b, s.heap.objs.size ≤ b → H b = none) (hge : lo ≤ e) (hnt : H e = none)
    (he : s.heap.get? e = some oe) (hcl : oe.cls = .ref C) (hod : oe.dict = od) (hd : oe.data = .fields vs) (hsz : 1 < vs.size)
    (h : ∀ h', Fly lo H h' e C od → Past lo H ((env :: outer).filterMap (·.frame)) s.heap h' → Q () { s with heap := h' }) :
    wpAny M A (do let a ← frameOf env; let pl ← entryPlaceOf L hadNext; let b ← EntryCells.newEntry head a .none (rawInt L) .none pl; setField (.ref e) 1 b) (fun _ s' => wpAny M A (setFlight (.ref e) none) Q E s') E s := by
  have hene : e ∉ (env :: outer).filterMap (·.frame) := fun hm => by
    obtain ⟨_, o, ho, hnf⟩ := hl.mem hm
    rw [he] at ho; injection ho with ho; subst ho; exact hnf vs hd
  refine wpAny_bind (wpAny_frameOf_fun hfr hl hf fun h₁ hs₁ => ?_)
  refine wpAny_bind (wpAny_entryPlaceOf fun pl hpl => ?_)
  unfold EntryCells.newEntry newFields
  refine wpAny_bind (wpAny_newObj_type ?_ (hpl.sizeOk5 _ _ _ _ _))
  have he₁ : h₁.get? e = some oe := (hs₁.2.1 e hene).trans he
  have he₂ := Heap.get?_push_of_some (h := h₁) { cls := .type "traceback", dict := none, data := .fields ([head, .ref L, .none, rawInt L, .none] ++ (if pl.isEmpty then List.replicate 6 Value.none else pl)).toArray } he₁
  refine wpAny_setField he₂ hd hsz ?_
  have hTe : h₁.objs.size ≠ e := Nat.ne_of_gt (Heap.lt_size he₁)
  have hd₃ := Obj.data_mapFields hd (·.setIfInBounds 1 (Value.ref h₁.objs.size))
  have he₃ := Heap.get?_update_self (Obj.mapFields (·.setIfInBounds 1 (Value.ref h₁.objs.size))) he₂ (Obj.isFreed_of_fields hd₃)
  have hT₃ := (Heap.get?_update_other (h₁.push { cls := .type "traceback", dict := none, data := .fields ([head, .ref L, .none, rawInt L, .none] ++ (if pl.isEmpty then List.replicate 6 Value.none else pl)).toArray })
    (Obj.mapFields (·.setIfInBounds 1 (Value.ref h₁.objs.size))) (Ne.symm hTe)).trans (Heap.get?_push_size h₁ rfl)
  unfold setFlight
  refine wpAny_bind (wpAny_field he₃ hd₃ (x := .ref h₁.objs.size) (by simp [hsz]) ?_)
  rw [if_pos (show (Value.ref h₁.objs.size != Value.none) = true from by simp)]
  refine wpAny_setField hT₃ rfl (by simp only [List.size_toArray, List.length_append, List.length_cons, List.length_nil] <;> omega) (h _ ?_ ?_)
  · refine ⟨hge, hnt, vs.setIfInBounds 1 (.ref h₁.objs.size), oe.slots, ?_, by simpa using hsz, .inr ⟨h₁.objs.size, _, _, by simp [hsz], by rw [hs₁.1]; exact hlo, hfree _ (by rw [hs₁.1]; exact Nat.le_refl _), hTe,
      Heap.get?_update_self _ hT₃ (Obj.isFreed_of_fields (Obj.data_mapFields rfl _)), Obj.data_mapFields rfl _, by first | (simp; done) | (rcases hpl with rfl | ⟨_, _, _, _, _, _, _, rfl⟩ <;> simp)⟩⟩
    rw [Heap.get?_update_other _ _ hTe, he₃]
    obtain ⟨c, d, dt, sl⟩ := oe
    dsimp only at hcl hod hd
    subst hcl hod hd
    rfl
  · have keep : ∀ b o, b ≠ e → h₁.get? b = some o →
        (((h₁.push { cls := .type "traceback", dict := none, data := .fields ([head, .ref L, .none, rawInt L, .none] ++ (if pl.isEmpty then List.replicate 6 Value.none else pl)).toArray }).update e (Obj.mapFields (·.setIfInBounds 1 (Value.ref h₁.objs.size)))).update h₁.objs.size
          (Obj.mapFields (·.setIfInBounds 3 ((none : Option Addr).elim Value.none fun f => rawInt f)))).get? b = some o := fun b o hbe hb => by
      have hbT : h₁.objs.size ≠ b := Nat.ne_of_gt (Heap.lt_size hb)
      rw [Heap.get?_update_other _ _ hbT, Heap.get?_update_other _ _ (Ne.symm hbe)]
      exact Heap.get?_push_of_some _ hb
    refine ⟨fun b o hb hx hnf => keep b o ?_ ((hs₁.2.1 b hnf).trans hb), fun b o hb hm => ?_⟩
    · rintro rfl
      rcases hx with hx | hx
      · exact absurd (Nat.lt_of_lt_of_le hx hge) (Nat.lt_irrefl _)
      · exact hx hnt
    · obtain ⟨sl, hs⟩ := hs₁.2.2 b o hb
      exact ⟨sl, keep b _ (fun z => hene (z ▸ hm)) hs⟩
/-- an error passes a frame (the frame that it leaves, or where it is caught) -/
theorem fly_pass {Q : Unit → Shared → Prop} (hfr : A.frames = some (env :: outer)) (hl : s.heap.FunFrames base (env :: outer)) (hf : env.frame = some L) (hlo : lo ≤ s.heap.objs.size) (hfree : ∀ b, s.heap.objs.size ≤ b → H b = none)
    (F : Fly lo H s.heap e C od) (h : ∀ h', Fly lo H h' e C od → Past lo H ((env :: outer).filterMap (·.frame)) s.heap h' → Q () { s with heap := h' }) :
    wpAny M A (noteFrame (.ref e) env) (fun _ s' => wpAny M A (setFlight (.ref e) none) Q E s') E s := by
  obtain ⟨hge, hnt, vs, sl, he, hsz, h3⟩ := F
  unfold noteFrame
  simp only [hf]
  rcases h3 with h3 | ⟨T, oT, ts, h1, hTlo, hTn, hTe, hT, hdT, h3⟩
  · refine wpAny_bind (wpAny_field he rfl h3 ?_)
    rw [if_neg (by decide)]
    exact fly_entry hfr hl hf hlo hfree hge hnt he rfl rfl rfl hsz h
  · refine wpAny_bind (wpAny_field he rfl h1 ?_)
    rw [if_pos (show (Value.ref T != Value.none) = true from by simp)]
    refine wpAny_bind (wpAny_field hT hdT h3 ?_)
    rw [if_neg (show ¬ ((Value.none == rawInt L) = true) from by simp [rawInt])]
    refine wpAny_bind (wpAny_setField hT hdT (Array.getElem?_eq_some_iff.mp h3).1 ?_)
    have other : ∀ b, b ≠ T → (s.heap.update T (Obj.mapFields (·.setIfInBounds 3 Value.none))).get? b = s.heap.get? b := fun b hb => Heap.get?_update_other _ _ (Ne.symm hb)
    have noRecord : ∀ b o, s.heap.get? b = some o → (∀ vs, o.data ≠ .fields vs) → b ≠ T := fun b o hb hnf q => by
      rw [q, hT] at hb; injection hb with hb; subst hb; exact hnf ts hdT
    have hsize : (s.heap.update T (Obj.mapFields (·.setIfInBounds 3 Value.none))).objs.size = s.heap.objs.size := Heap.size_after_update ..
    refine fly_entry (s := { s with heap := s.heap.update T (Obj.mapFields (·.setIfInBounds 3 Value.none)) }) hfr (hl.of_keeps fun b o hb hnf => ⟨o, (other b (noRecord b o hb hnf)).trans hb, rfl⟩) hf (by show lo ≤ _; rw [hsize]; exact hlo) (fun b hb => hfree b (by rw [← hsize]; exact hb)) hge hnt ((other e (Ne.symm hTe)).trans he) rfl rfl rfl hsz fun h' F' P => h h' F' ⟨fun b o hb hx hn => P.keep b o ((other b ?_).trans hb) hx hn, fun b o hb hm => P.slot b o ((other b ?_).trans hb) hm⟩
    · rintro rfl
      rcases hx with hx | hx
      · exact absurd (Nat.lt_of_lt_of_le hx hTlo) (Nat.lt_irrefl _)
      · exact hx hTn
    · rintro rfl
      obtain ⟨_, o', ho', hnf⟩ := hl.mem hm
      rw [hT] at ho'; injection ho' with ho'; subst ho'
      exact hnf ts hdT
end
end L2

set_option Elab.async false
set_option linter.all false
set_option maxRecDepth 100000
set_option maxHeartbeats 4000000
namespace L2
open PySem PySem.Spec PyProof.Rows
/-- an error lies behind a call -/
def CXe (P : Program) (w : World) : CXT := fun outer H s E ev s' => ∃ e C od H', ev = .ref e ∧ s'.os = s.os ∧ AllBare s'.gens ∧ Un (frs outer) [] H H' s.heap s'.heap ∧ HOk P w H' s'.heap ∧ Fly s.heap.objs.size H' s'.heap e C od ∧ E (.ref C) od H'
/-- what the code wants of errors takes those of E -/
def Takes (X : Cx) (E : XK) : Prop := ∀ (pins : List (Addr × Obj)) (σ : St) (H : Hp) (s : Shared) (e C : Addr) (od : Option Addr), Inv X pins σ H s → Fly X.s₀.heap.objs.size H s.heap e C od → E (.ref C) od H → X.xe (.ref e) s
theorem passE {X : Cx} {E : XK} (hT : Takes X E) : Passes (CXe X.prog X.w) X E := fun pins σ H s ev s' I h => by
  obtain ⟨e, C, od, H', rfl, hos, bare, un, hok, F, hE⟩ := h
  exact hT pins σ H' s' e C od (I.call' hos un hok bare fun b z => absurd z (by simp)) (F.low I.sz) hE
section
variable {P : Program} {w : World} {K : PySem.W.Frag} {mg : Str → Option Value} {base : Heap} {N : List Str} {qual : Str} {scope : Scope} {f : Addr} {cd : Value} {A : Around} {outer : List Env} {s : Shared} {H : Hp} {E : XK}
theorem HOk.past {lo : Nat} {H : Hp} {fs : List Addr} {h h' : Heap} (x : HOk P w H h) (p : Past lo H fs h h') (hf : ∀ b ∈ fs, H b = none) : HOk P w H h' := fun a o e =>
  (x a o e).stay (fun b u hb q => p.keep b u q (.inr (by rcases hb with rfl | hb; (· rw [e]; simp); (· rw [hb]; simp))) fun hm => by
    have := hf b hm
    rcases hb with rfl | hb
    · rw [e] at this; cases this
    · rw [hb] at this; cases this) (fun _ q => q) fun _ _ q => q
/-- an error leaves a def -/
theorem takes_fn : Takes (cxOf (CXe P w) P w K mg base N qual scope f cd A outer s H E) E := by
  intro pins σ H1 s1 e C od I F hE
  show wpAny (model P w) _ («leaving» _ (.ref e)) (fun _ s'' => CXe P w outer H s E (.ref e) s'') (fun e' s'' => CXe P w outer H s E e' s'') s1
  unfold «leaving»
  have hfree : ∀ b, s1.heap.objs.size ≤ b → H1 b = none := fun b hb => I.hok.fresh hb
  refine wpAny_bind (fly_pass (lo := s.heap.objs.size) (H := H1) (base := base) (outer := outer) I.ok.frames I.stack rfl I.sz hfree F fun h' F' p => ?_)
  have hfr := I.stkFree
  have notin : ∀ b o, s.heap.get? b = some o → b ∉ frs outer → b ∉ (envOfC qual scope s.heap.objs.size f cd :: outer).filterMap (·.frame) := fun b o hb hn hm => by
    rcases List.mem_cons.mp (show b ∈ s.heap.objs.size :: frs outer from hm) with z | z
    · exact absurd (Heap.lt_size hb) (by rw [z]; exact Nat.lt_irrefl _)
    · exact hn z
  refine ⟨e, C, od, H1, rfl, I.os, I.bare, ?_, I.hok.past p hfr, F', hE⟩
  have u := I.base
  refine ⟨fun b o hb n hbf hx => ?_, fun b o hb n hbf hx => ?_, fun b o hb n hx => u.free b o hb n hx, fun b o hb hx => ?_, u.tups, u.frzs, u.tbls⟩
  · exact p.keep b o (u.keep b o hb n hbf hx) (.inl (Heap.lt_size hb)) (notin b o hb hbf)
  · obtain ⟨sl, e1⟩ := u.slot b o hb n hbf hx
    obtain ⟨sl', e2⟩ := p.slot b _ e1 (show b ∈ s.heap.objs.size :: frs outer from List.mem_cons_of_mem _ hbf)
    exact ⟨sl', e2⟩
  · obtain ⟨o', e1⟩ := u.there b o hb hx
    by_cases hm : b ∈ (envOfC qual scope s.heap.objs.size f cd :: outer).filterMap (·.frame)
    · obtain ⟨sl, e2⟩ := p.slot b o' e1 hm
      exact ⟨_, e2⟩
    · exact ⟨o', p.keep b o' e1 (.inl (Heap.lt_size hb)) hm⟩
/-- THE RULE for a def that may raise -/
theorem Fun.okE {x qual : Str} {st : Stmt} {f : Addr} {fd : FuncData} {N ps : List Str} {k : Nat} {sp : Sp} (F : Fun K x qual st f fd) (S : FnScope N ps (defScope st)) (len : ∀ vs H Q E, sp vs H Q E → vs.length = ps.length)
    (hbody : ∀ (cdv : Value) (A : Around) (outer : List Env) (s : Shared) (H : Hp) (vs : List V) (Q : VK) (E : XK), Room k (A.deeper (envOfC qual (defScope st) s.heap.objs.size f cdv)) → sp vs H Q E →
      ∃ t, PSs (cxOf (CXe P w) P w K mg base N qual (defScope st) f cdv A outer s H E) (defBody st) t ∧ t { nx := fun _ H' => Q .non H', rt := Q } (start N vs) H) : FnOk P w K mg base (CXe P w) (k + 1) f fd ps sp := by
  obtain ⟨oc, od, kV, doc, pm, an, cdv, ct, osl, rfl, lk, hcd⟩ := F.ex
  exact fn_of lk hcd S len fun A outer s H vs Q E hr hsp => hbody cdv A outer s H vs Q E hr hsp
end
end L2

set_option Elab.async false
set_option linter.all false
set_option maxRecDepth 100000
set_option maxHeartbeats 4000000
namespace L2
open PySem PySem.Spec PyProof.Rows
open PySem.W (Looks looks_findIn looks_typeIn InitBack bind_fn findIn clsIn specialIn readsIn findCls keepIn isFn typeIn InstAt)
section
variable {prog : Program} {w : World} {A : Around} {R : Result → Shared → Prop} {h : Heap} {g : Array GenState} {d : Drawn} {t : Nat} {os : OsState}
variable {nm q : Str} {C CB N : Addr} {bs : List Value} {hdct : Bool} {sn : List Str} {sub : List Value} {ab : Bool} {col : Option Bool} {dd : Option Addr} {k0 k1 k2 k3 k5 : Option Value}
theorem chk_new {M : Model} {E : Value → Shared → Prop} {rest : List Value} {Q : Unit → Shared → Prop} (hC : h.get? C = some (excClassObj nm q C N bs (bmX CB) hdct sn sub ab col dd k0 k1 k2 k3 k5 "ValueError.__new__"))
    (hq : Q () ⟨h, g, d, t, os⟩) : wpAny M A (checkBuiltinCall "ValueError.__new__" ⟨.ref C :: rest, []⟩) Q E ⟨h, g, d, t, os⟩ := by
  have F := PySem.F.excBase_ValueError
  have hcont : (Value.ref C :: bmX CB).contains (.type "ValueError") = true := rfl
  have hstar := F.noStar
  simp only [checkBuiltinCall, F.newKind, F.newSplit, F.newRow]
  repeat (first | refine wpAny_loadPart_at hC ?_ | (refine wpAny_isSubtype_exc hC ?_; rw [hcont]) | refine wpAny_staticBase_exc hC ?_ | refine wpAny_madeBy_exc hC ?_ | simp only [bne_self_eq_false, Bool.false_eq_true, if_false] | wp_step)
  exact hq
theorem run_new {rest : List Value} (hC : h.get? C = some (excClassObj nm q C N bs (bmX CB) hdct sn sub ab col dd k0 k1 k2 k3 k5 "ValueError.__new__"))
    (hq : R (.ok (.ret (.ref (h.objs.size + 1)))) ⟨(h.push { cls := .type "tuple", data := .seq rest.toArray }).push
      { cls := .ref C, data := .fields #[.ref h.objs.size, .none, .none, .none, .bool false, .none] }, g, d, t, os⟩) (hrest : rest.length ≤ sizeLine := by size_fits) :
    codeAny (model prog w) A (.builtin "ValueError.__new__" ⟨.ref C :: rest, []⟩) R ⟨h, g, d, t, os⟩ := by
  have F := PySem.F.excBase_ValueError
  have hends := F.ends
  have hcB : (Value.ref C :: bmX CB).contains (.type "ValueError") = true := rfl
  have hcA : (Value.ref C :: bmX CB).contains (.type "AttributeError") = false := rfl
  have hcN : (Value.ref C :: bmX CB).contains (.type "NameError") = false := rfl
  refine codeAny_builtinAt F.entry ?_
  unfold Builtin.«BaseException.__new__»
  refine PySem.wpAt_bind ?_
  show PySem.wpAt _ _ _ (PySem.stack >>= _) _ _ _
  refine PySem.wpAt_bind (PySem.wpAt_stack fun p below => PySem.wpAt_of_wpAny ?_)
  wp_walk
  refine PySem.wpAt_of_wpAny ?_
  rw [F.owner]
  repeat (first | with_reducible refine wpAny_madeHere_exc F.canon hC ?_ | with_reducible refine wpAny_loadPart_at hC ?_ | (with_reducible refine wpAny_isSubtype_exc hC ?_; first | rw [hcB] | rw [hcA] | rw [hcN]) | wp_step)
  show R _ _
  rw [Heap.size_push]
  exact hq
theorem xmk_type {rest : List Value} {init : Value} {A' : Around} (hC : h.get? C = some (excClassObj nm q C N bs (bmX CB) hdct sn sub ab col dd k0 k1 k2 k3 k5 "ValueError.__new__"))
    (hi : Looks (model prog w) h (typeLookup (.ref C) "__init__") (some init)) (hb : ∀ self, Looks (model prog w) h (bindSpecial init self) (init, [self])) (hrest : rest.length ≤ sizeLine)
    (hq : codeAny (model prog w) A' (.call init ⟨.ref (h.objs.size + 1) :: rest, []⟩) (InitBack (h.objs.size + 1) R) ⟨(h.push (tupObj rest)).push (excObj C h.objs.size), g, d, t, os⟩) :
    wpAny (model prog w) A' (Builtin.«type.__call__» ⟨.ref C :: rest, []⟩) (fun fin s' => match fin with | .done f => R (.ok f) s' | .again c' => c'.quiet = true ∧ codeAny (model prog w) A c' R s') (fun e s' => R (.error e) s') ⟨h, g, d, t, os⟩ := by
  have F := PySem.F.excBase_ValueError
  repeat (first | with_reducible refine wpAny_loadPart_at hC ?_ | with_reducible refine wpAny_madeBy_exc hC ?_ | wp_step)
  refine codeAny_call_builtin_code (Code.quiet_builtin _ F.quiet) (chk_new hC ?_)
  refine run_new hC ?_ hrest
  show wpAny _ _ _ _ _ _
  have k : ∀ b o, h.get? b = some o → ((h.push (tupObj rest)).push (excObj C h.objs.size)).get? b = some o := fun b o e => Heap.get?_push_of_some _ (Heap.get?_push_of_some _ e)
  have hC₁ := Heap.get?_push_of_some { cls := .ref C, data := .fields #[.ref h.objs.size, .none, .none, .none, .bool false, .none] }
    (Heap.get?_push_of_some { cls := .type "tuple", data := .seq rest.toArray } hC)
  have hget : ((h.push { cls := .type "tuple", data := .seq rest.toArray }).push { cls := .ref C, data := .fields #[.ref h.objs.size, .none, .none, .none, .bool false, .none] }).get? (h.objs.size + 1) = some { cls := .ref C, data := .fields #[.ref h.objs.size, .none, .none, .none, .bool false, .none] } := by heap_get
  have hcC : (Value.ref C :: bmX CB).contains (.ref C) = true := by simp
  have i1 := hi.keeps k
  have b1 := (hb (.ref (h.objs.size + 1))).keeps k
  unfold isInstance
  repeat (first | with_reducible refine wpAny_loadPart_at hget ?_ | (with_reducible refine wpAny_isSubtype_exc hC₁ ?_; rw [hcC]) | wp_step)
  show wpAny _ _ (typeLookup (.ref C) _) _ _ _
  refine i1.at ?_
  refine wpAny_holding (wpAny_bind (b1.at ?_))
  refine wpAny_bind (wpAny_call (codeAny_mono hq fun r s' z => ?_))
  rcases r with e | (v | _ | _ | _) <;> first | exact z | exact z.elim | skip
  obtain ⟨rfl, z⟩ := z
  wp_walk
  exact z
/-- C(..) of an own error class -/
theorem xmk_core {rest : List Value} {init : Value} (hC : h.get? C = some (excClassObj nm q C N bs (bmX CB) hdct sn sub ab col dd k0 k1 k2 k3 k5 "ValueError.__new__"))
    (hi : Looks (model prog w) h (typeLookup (.ref C) "__init__") (some init)) (hb : ∀ self, Looks (model prog w) h (bindSpecial init self) (init, [self])) (hrest : rest.length ≤ sizeLine)
    (hq : codeAny (model prog w) (A.under (.builtin "type.__call__" ⟨.ref C :: rest, []⟩)) (.call init ⟨.ref (h.objs.size + 1) :: rest, []⟩) (InitBack (h.objs.size + 1) R) ⟨(h.push (tupObj rest)).push (excObj C h.objs.size), g, d, t, os⟩) :
    codeAny (model prog w) A (.call (.ref C) ⟨rest, []⟩) R ⟨h, g, d, t, os⟩ := by
  have f1 := tc_lookup
  have f2 := PySem.tc_bind (.ref C)
  have hT : (⟨h, g, d, t, os⟩ : Shared).TypeIs (.ref C) "type" := ⟨_, hC, rfl⟩
  refine codeAny_of_tree ?_
  show wpAny _ _ (callAny (.ref C) _) _ _ _
  repeat (any_goals (first | assumption | with_reducible refine wpAny_loadPart_at hC ?_ | wp_step))
  refine ⟨rfl, ?_⟩
  exact codeAny_call_builtin_at (Code.quiet_builtin _ (by decide +kernel)) entry_typeCall (wpAny_check_type_call_sub hC (xmk_type hC hi hb hrest hq))
/-- raise of an error that was made on the spot -/
theorem xraise_stmt {M : Model} {E : Value → Shared → Prop} {s : Shared} {env : Env} {x : Expr} {pos : Pos} {Q : Flow → Shared → Prop} (hh : A.handled = none)
    (h : wpAny M A (eval x env) (fun v s₁ => ∃ e od t, v = .ref e ∧ s₁.heap.get? C = some (excClassObj nm q C N bs (bmX CB) hdct sn sub ab col dd k0 k1 k2 k3 k5 "ValueError.__new__") ∧
      s₁.heap.get? e = some { cls := .ref C, dict := od, data := .fields #[.ref t, .none, .none, .none, .bool false, .none] } ∧ E (.ref e) s₁) E s) :
    wpAny M A (exec (.Raise (some x) none pos) env) Q E s := by
  have key : wpAny M A (raiseStmt env (some (do let v ← eval x env; standAt pos; pure v)) none) Q E s := by
    have hcB : (Value.ref C :: bmX CB).contains (.type "BaseException") = true := rfl
    unfold raiseStmt
    refine wpAny_bind (wpAny_bind (wpAny_mono h (fun v s₁ h₁ => wpAny_bind (wpAny_standAt (wpAny_pure ?_))) fun _ _ x => x))
    obtain ⟨e, od, t, rfl, hC, he, hE⟩ := h₁
    obtain ⟨hp, g, d, tk, os⟩ := s₁
    repeat (first | with_reducible refine wpAny_loadPart_at he ?_ | with_reducible refine wpAny_loadPart_at hC ?_ | (with_reducible refine wpAny_isSubtype_exc hC ?_; rw [hcB]) | wp_step)
    exact wpAny_raiseNew_none hh hE
  rw [arm_exec_Raise]
  exact wpAny_bind (wpAny_standAt key)
end
end L2

set_option Elab.async false
set_option linter.all false
set_option maxRecDepth 100000
set_option maxHeartbeats 4000000
namespace L2
open PySem PySem.Spec PyProof.Rows
open PySem.W (Looks looks_findIn looks_typeIn InitBack bind_fn findIn clsIn specialIn readsIn findCls keepIn isFn typeIn InstAt)
/-- an own error class C under BandError (at CB) -/
structure XUnder (K : PySem.W.Frag) (C CB : Addr) (nm : Str) : Prop where
  lk : ∃ (q : Str) (N : Addr) (bs : List Value) (sn : List Str) (sub : List Value) (ab : Bool) (col : Option Bool) (dd : Option Addr) (k0 k1 k2 k3 k5 : Option Value),
    K.lookup C = some (excClassObj nm q C N bs (bmX CB) true sn sub ab col dd k0 k1 k2 k3 k5 "ValueError.__new__")
  sa : findIn K (.ref C) "__setattr__" = some (some (.builtin "object.__setattr__"))
  ga : findIn K (.ref C) "__getattribute__" = some (some (.builtin "BaseException.__getattribute__"))
  gh : findIn K (.ref C) "__getattr__" = some none
  kp : keepIn K (.ref C) = true
/-- BandError -/
structure XBase (K : PySem.W.Frag) (CB : Addr) : Prop where
  sp : specialIn K (.ref CB) "__getattribute__" = some (some (.builtin "type.__getattribute__"))
  rd : readsIn K CB (.type "type") = true
  fc : findCls K (.ref CB) (.type "type") "__init__" = some (.val (.builtin "ValueError.__init__"))
/-- a new error, without and with an own dict -/
def XN (x C : Addr) : HO := .ext fun h => ∃ t, h.get? x = some (excObj C t)
abbrev excObjD (C d t : Addr) : Obj := { cls := .ref C, dict := some d, data := .fields #[.ref t, .none, .none, .none, .bool false, .none] }
def XD (x C d : Addr) : HO := .ext fun h => ∃ t, h.get? x = some (excObjD C d t)
section
variable {P : Program} {w : World} {H : Hp} {h : Heap} {x C d t : Addr}
theorem okXN (e : h.get? x = some (excObj C t)) : ObjOk P w H h x (XN x C) := ⟨⟨t, e⟩, ⟨_, e⟩, fun h1 h2 ⟨t', e'⟩ k => ⟨t', k _ e'⟩⟩
end
/-- what is tracked but x -/
def del (H : Hp) (x : Addr) : Hp := fun b => if b = x then none else H b
theorem del_same {H : Hp} {x : Addr} : del H x x = none := if_pos rfl
theorem del_ne {H : Hp} {x b : Addr} (h : b ≠ x) : del H x b = H b := if_neg h
theorem del_upd {H : Hp} {x : Addr} {o : HO} (h : H x = none) : del (upd H x o) x = H := by
  funext b
  by_cases e : b = x
  · rw [e, del_same, h]
  · rw [del_ne e, upd_ne e]
section
variable {X : Cx} {pins : List (Addr × Obj)} {σ : St} {H : Hp} {s : Shared} {x : Addr} {φ : Heap → Prop}
/-- a thing is no longer tracked -/
theorem Inv.del (I : Inv X pins σ H s) (hx : H x = some (.ext φ)) : Inv X pins σ (L2.del H x) s := by
  have ne : ∀ {b : Addr} {o : HO}, H b = some o → (∀ ψ, o ≠ .ext ψ) → b ≠ x := fun e n z => by rw [z, hx] at e; exact n φ (Option.some.inj e).symm
  have nn : ∀ {b : Addr}, H b = none → L2.del H x b = none := fun {b} e => by
    by_cases z : b = x
    · rw [z]; exact del_same
    · rw [del_ne z]; exact e
  have u := I.base
  refine ⟨I.ok, I.os, I.bare, ⟨u.keep, u.slot, fun b o q n hx' => nn (u.free b o q n hx'), u.there, fun b xs q => ?_, fun b o v q => ?_, fun b ps q => ?_⟩, I.loc, I.cell, nn I.free, fun y c e => nn (I.freeC y c e), fun p hp => ?_, fun a o e => ?_, I.len⟩
  · have e := u.tups b xs q
    rw [del_ne (ne e fun ψ z => by cases z)]; exact e
  · have e := u.frzs b o v q
    rw [del_ne (ne e fun ψ z => by cases z)]; exact e
  · obtain ⟨m, e⟩ := u.tbls b ps q
    exact ⟨m, by rw [del_ne (ne e fun ψ z => by cases z)]; exact e⟩
  · obtain ⟨a1, a2, a3⟩ := I.pin p hp
    exact ⟨a1, nn a2, a3⟩
  · have e' : H a = some o := by
      by_cases z : a = x
      · rw [z, del_same] at e; cases e
      · rw [del_ne z] at e; exact e
    refine (I.hok a o e').stay (fun b u _ q => q) (fun b q => ?_) fun b xs q => ?_
    · rw [del_ne (ne q fun ψ z => by cases z)]; exact q
    · rw [del_ne (ne q fun ψ z => by cases z)]; exact q
end
/-! ### an error's own __init__ -/
def tBInit (K : PySem.W.Frag) (CB : Addr) (t : TA) : TE := fun σ H Q => t σ H fun vs H1 => ∃ x C nm m, vs = [.ref x, m] ∧ H1 x = some (XN x C) ∧ XUnder K C CB nm ∧ Q .non H1
section
variable {X : Cx} {CB C f : Addr} {p pos apos cpos : Pos} {e e2 : Expr} {es : List Expr} {t : TA} {nmB name : Str} {ta tv : TE} {o value : Expr} {pos' : Pos}
def sXFld (K : PySem.W.Frag) (CB : Addr) (ta tv : TE) (name : Str) : TS := fun D σ H => tv σ H fun y H1 => ta σ H1 fun z H2 => ∃ x C nm, z = .ref x ∧ H2 x = some (XN x C) ∧ XUnder K C CB nm ∧ findIn K (.ref C) name = some none ∧
  ∀ d, H2 d = none → D.nx σ (upd (upd H2 d (.xd [(name, y)])) x (XD x C d))
end
end L2

set_option Elab.async false
set_option linter.all false
set_option maxRecDepth 100000
set_option maxHeartbeats 4000000
namespace L2
open PySem PySem.Spec PyProof.Rows
open PySem.W (Looks looks_findIn looks_typeIn InitBack bind_fn findIn clsIn specialIn readsIn findCls keepIn isFn typeIn InstAt)
/-- raise C(..), C with an own __init__ -/
def sRaise (K : PySem.W.Frag) (C : Addr) (sp : Sp) (E : XK) (t : TA) : TS := fun _ σ H => t σ H fun vs H1 => vs.length ≤ sizeLine ∧ ∀ x, H1 x = none →
  sp (.ref x :: vs) (upd H1 x (XN x C)) (fun v H2 => v = .non ∧ ((H2 x = some (XN x C) ∧ E (.ref C) none (del H2 x)) ∨ ∃ d, H2 x = some (XD x C d) ∧ E (.ref C) (some d) (del H2 x))) E0
/-- raise C(..), C without one -/
def sRaise0 (C : Addr) (E : XK) (t : TA) : TS := fun _ σ H => t σ H fun vs H1 => vs.length = 1 ∧ E (.ref C) none H1
section
variable {X : Cx} {CB C f : Addr} {fd : FuncData} {ps : List Str} {sp : Sp} {E : XK} {k : Nat} {p pos cpos : Pos} {e : Expr} {es : List Expr} {t : TA} {x nm : Str}
theorem Inv.newExc {pins : List (Addr × Obj)} {σ : St} {H : Hp} {s : Shared} (I : Inv X pins σ H s) (us : List Value) (C : Addr) :
    Inv X pins σ (upd H (s.heap.objs.size + 1) (XN (s.heap.objs.size + 1) C)) { s with heap := (s.heap.push (tupObj us)).push (excObj C s.heap.objs.size) } := by
  have I1 := I.kept (h' := s.heap.push (tupObj us)) (t' := s.toks) fun b u q => Heap.get?_push_of_some _ q
  refine I1.laid (a := s.heap.objs.size + 1) (t' := s.toks) (fun b u q => Heap.get?_push_of_some _ q) (Nat.le_of_eq (Heap.size_push _ _)) (okXN (t := s.heap.objs.size) ?_)
  have := Heap.get?_push_size (s.heap.push (tupObj us)) (o := excObj C s.heap.objs.size) rfl
  rwa [Heap.size_push] at this
theorem ps_raise0 (hT : Takes X E) (hc : X.calm = true) (U : XUnder X.K C CB nm) (hi : findIn X.K (.ref C) "__init__" = some (some (.builtin "ValueError.__init__"))) (hg : Gl X x) (hm : X.mg x = some (.ref C)) (ha : PA X (e :: es) t)
    (hdb : (x == ("__debug__" : Str)) = false := by decide) (he : starEach (e :: es) X.env = (false, eval e X.env) :: starEach es X.env := by rfl) (hpl : (backTo cpos (starEach es X.env)).any (·.1) = false := by rfl) :
    PS X (.Raise (some (.Call (.Name x p) (e :: es) [] cpos)) none pos) (sRaise0 C E t) := by
  intro pins s σ H D I h
  obtain ⟨qn, N, bs, sn, sub, ab, col, dd, k0, k1, k2, k3, k5, lk⟩ := U.lk
  refine xraise_stmt (C := C) (CB := CB) (nm := nm) (q := qn) (N := N) (bs := bs) (hdct := true) (sn := sn) (sub := sub) (ab := ab) (col := col) (dd := dd) (k0 := k0) (k1 := k1) (k2 := k2) (k3 := k3) (k5 := k5) (I.ok.hd hc) ?_
  refine wpAny_Call_Name_kw (ld_glob I hg hm ?_ hdb)
  refine PySem.W.callWith_K (h₀ := X.base) I.ok.mod.kin U.kp (thn (ha cpos pins s σ H _ I h) fun us s1 ⟨vs, H1, I1, r, hlen, q⟩ => ⟨I1.kIn, ?_⟩) he hpl
  obtain ⟨u, rfl⟩ : ∃ u, us = [u] := by
    have := r.length
    rw [hlen] at this
    exact List.length_eq_one_iff.mp this.symm
  have I2 := Inv.newExc I1 [u] C
  have hx2 : (upd H1 (s1.heap.objs.size + 1) (XN (s1.heap.objs.size + 1) C)) (s1.heap.objs.size + 1) = some (XN (s1.heap.objs.size + 1) C) := upd_same
  have hx1 := I1.hok.fresh (Nat.le_succ s1.heap.objs.size)
  obtain ⟨hh, g, dr, tk, os⟩ := s1
  refine wpAny_call (xmk_core (I1.kIn _ _ lk) (looks_findIn I1.kIn hi) (fun self => Looks.of_pure (PySem.F.excBase_ValueError.init.bind self)) (by show 1 ≤ sizeLine; decide) ?_)
  obtain ⟨⟨tt, ht⟩, _⟩ := I2.hok _ _ hx2
  refine xinit_code I2.kIn ht lk fun h' t' kk ex => ⟨rfl, ?_⟩
  have I3 := I2.write (x := hh.objs.size + 1) (e := hh.objs.size + 1) (o := XN (hh.objs.size + 1) C) (h' := h') (t' := tk) (by rw [hx2]; exact True.intro) (.inl rfl) (fun b u hb z => kk b u hb z) ⟨_, ex⟩ (okXN ex)
  rw [upd_upd] at I3
  have I4 := I3.del (x := hh.objs.size + 1) upd_same
  rw [del_upd hx1] at I4
  have hge : X.s₀.heap.objs.size ≤ hh.objs.size + 1 := Nat.le_trans I1.sz (Nat.le_succ _)
  exact ⟨_, none, t', rfl, I4.kIn _ _ lk, ex, hT pins σ _ _ _ C none I4 ⟨hge, hx1, _, _, ex, by show 1 < 6; decide, .inl rfl⟩ q⟩
end
end L2

set_option Elab.async false
set_option linter.all false
set_option maxRecDepth 100000
set_option maxHeartbeats 4000000
namespace L2
open PySem PySem.Spec PyProof.Rows
/-! ### f-strings -/
abbrev TJ := Str → St → Hp → (Str → Hp → Prop) → Prop
def PJ (X : Cx) (es : List Expr) (t : TJ) : Prop := ∀ (pins : List (Addr × Obj)) (s : Shared) (σ : St) (H : Hp) (acc : Str) (Q : Str → Hp → Prop), Inv X pins σ H s → t acc σ H Q →
  wpAny (model X.prog X.w) X.A (joinParts acc (evalEach es X.env)) (fun u s' => ∃ z H', Inv X pins σ H' s' ∧ (∃ tk, u = .str z tk) ∧ Q z H') X.xe s
section
variable {X : Cx} {e : Expr} {es : List Expr} {te : TE} {t : TJ} {pos : Pos}
def jNil : TJ := fun acc _ H Q => acc.length ≤ sizeLine ∧ Q acc H
def jLit (z : Str) (t : TJ) : TJ := fun acc σ H Q => (acc ++ z).length ≤ sizeLine ∧ t (acc ++ z) σ H Q
def jInt (te : TE) (t : TJ) : TJ := fun acc σ H Q => te σ H fun v H1 => (∃ i, v = .int i ∧ i.natAbs.log2 < 1920 ∧ (acc ++ (toString i : String)).length ≤ sizeLine ∧ t (acc ++ (toString i : String)) σ H1 Q) ∨ (∃ z, v = .str z ∧ z.length ≤ sizeLine ∧ (acc ++ z).length ≤ sizeLine ∧ t (acc ++ z) σ H1 Q)
end
/-! ### within a try: an error's wish goes along -/
abbrev TEx := XK → TE
abbrev TSx := (St → XK) → TS
def XPe (X : Cx) (pins : List (Addr × Obj)) (σ : St) (E : XK) (ev : Value) (s' : Shared) : Prop := ∃ H0 s0, Inv X pins σ H0 s0 ∧ CXe X.prog X.w X.stack H0 s0 E ev s'
def XPs (X : Cx) (pins : List (Addr × Obj)) (E : St → XK) (ev : Value) (s' : Shared) : Prop := ∃ σ, XPe X pins σ (E σ) ev s'
def PEx (X : Cx) (e : Expr) (t : TEx) : Prop := ∀ (pins : List (Addr × Obj)) (s : Shared) (σ : St) (H : Hp) (Q : VK) (E : XK), Inv X pins σ H s → t E σ H Q → wpAny (model X.prog X.w) X.A (eval e X.env) (EP X pins σ Q) (XPe X pins σ E) s
def PSx (X : Cx) (st : Stmt) (t : TSx) : Prop := ∀ (pins : List (Addr × Obj)) (s : Shared) (σ : St) (H : Hp) (D : Ends) (E : St → XK), Inv X pins σ H s → t E D σ H → wpAny (model X.prog X.w) X.A (exec st X.env) (SP X pins D) (XPs X pins E) s
def PSsx (X : Cx) (st : List Stmt) (t : TSx) : Prop := ∀ (pins : List (Addr × Obj)) (s : Shared) (σ : St) (H : Hp) (D : Ends) (E : St → XK), Inv X pins σ H s → t E D σ H → wpAny (model X.prog X.w) X.A (execs st X.env) (SP X pins D) (XPs X pins E) s
section
variable {X : Cx} {k : Nat} {f C : Addr} {fd : FuncData} {ps : List Str} {sp : Sp} {x m : Str} {p pos apos : Pos} {e o : Expr} {es : List Expr} {ta : TE} {t : TA} {st : Stmt} {rest : List Stmt}
theorem noxE {α : Type} {M : Model} {A : Around} {m : Sem α} {Q : α → Shared → Prop} {E : Value → Shared → Prop} {s : Shared} (h : wpAny M A m Q (fun _ _ => False) s) : wpAny M A m Q E s := wpAny_mono h (fun _ _ x => x) fun _ _ z => z.elim
theorem AP.unwish {E : Value → Shared → Prop} {pins : List (Addr × Obj)} {σ : St} {Q : List V → Hp → Prop} {us : List Value} {s' : Shared} (h : AP (X.wish E) pins σ Q us s') : AP X pins σ Q us s' := by
  obtain ⟨vs, H', I, r, q⟩ := h
  exact ⟨vs, H', I.unwish, r, q⟩
/-- the callee runs -/
theorem run_fnX {pins : List (Addr × Obj)} {σ : St} {H : Hp} {s : Shared} {Q : VK} {E : XK} {us : List Value} {vs : List V} (F : FnOk X.prog X.w X.K X.mg X.base (CXe X.prog X.w) k f fd ps sp) (hr : Room k X.A) (hb : Binds X.K fd ps [])
    (I : Inv X pins σ H s) (r : Vals vs us) (h : sp vs H Q E) : wpAny (model X.prog X.w) X.A (call (.ref f) us) (EP X pins σ Q) (XPe X pins σ E) s := by
  have hl : (us ++ []).length = ps.length := by rw [List.append_nil, ← r.length]; exact F.len _ _ _ _ h
  have hbb := hb s us I.kIn hl
  rw [List.append_nil] at hbb
  refine wpAny_call (codeAny_mono (F.run X.A X.stack s H ⟨us, []⟩ us vs Q E hr I.env0 hbb r h) fun r s' hq => ?_)
  cases r with
  | error e => exact ⟨H, s, I, hq⟩
  | ok fl =>
    cases fl with
    | ret u => exact I.after hq
    | next => exact False.elim hq
    | brk => exact False.elim hq
    | cont => exact False.elim hq
def tCallX (sp : Sp) (t : TA) : TEx := fun E σ H Q => t σ H fun vs H1 => sp vs H1 Q E
theorem pex_call (F : FnOk X.prog X.w X.K X.mg X.base (CXe X.prog X.w) k f fd ps sp) (hr : Room k X.A) (hg : Gl X x) (hm : X.mg x = some (.ref f)) (hk : PySem.W.keepIn X.K (.ref f) = true) (hb : Binds X.K fd ps [])
    (ha : PA X.nox (e :: es) t) (hdb : (x == ("__debug__" : Str)) = false := by decide) (he : starEach (e :: es) X.env = (false, eval e X.env) :: starEach es X.env := by rfl) (hpl : (backTo pos (starEach es X.env)).any (·.1) = false := by rfl) :
    PEx X (.Call (.Name x p) (e :: es) [] pos) (tCallX sp t) := by
  intro pins s σ H Q E I h
  refine wpAny_Call_Name_kw (ld_glob I hg hm ?_ hdb)
  refine PySem.W.callWith_K (h₀ := X.base) I.ok.mod.kin hk (noxE (thn (ha pos pins s σ H _ (I.wish _) h) fun us s1 h1 => ?_)) he hpl
  obtain ⟨vs, H1, I1, r, q⟩ := h1.unwish
  exact ⟨I1.kIn, wpAny_mono (run_fnX F hr hb I1 r q) (fun _ _ z => z) fun _ _ z => z⟩
def tMethX (C : Addr) (m : Str) (sp : Sp) (ta : TE) (t : TA) : TEx := fun E σ H Q => ta σ H fun x H1 => ∃ a dx fs, x = .ref a ∧ H1 a = some (.ins C dx fs) ∧ fs.lookup m = none ∧ t σ H1 fun vs H2 => sp (x :: vs) H2 Q E
def tMakeX (C : Addr) (sp : Sp) (t : TA) : TEx := fun E σ H Q => t σ H fun vs H1 => ∀ x dx, H1 x = none → H1 dx = none → dx ≠ x →
  sp (.ref x :: vs) (upd (upd H1 dx (.own x)) x (.ins C dx [])) (fun v H2 => v = .non ∧ Q (.ref x) H2) E
/-! statements -/
variable {te : TEx} {i : Nat} {pos' : Pos} {tx ty : TSx} {tc : TT} {c : Expr} {a b : List Stmt} {ts : TS}
def xSet (te : TEx) (i : Nat) : TSx := fun E D σ H => te (E σ) σ H fun v H1 => D.nx (σ.set i (some v)) H1
def xDrop (te : TEx) : TSx := fun E D σ H => te (E σ) σ H fun _ H1 => D.nx σ H1
theorem psx_expr (he : PEx X e te) (hs : swapsWith e none pos.line X.env = pure false := by rfl) : PSx X (.Expr e pos) (xDrop te) := by
  intro pins s σ H D E I h
  exact wpAny_Expr_any (wpAny_mono (he pins s σ H _ (E σ) I h) (fun v s1 ⟨x, H1, I1, r1, q1⟩ => ⟨σ, H1, I1, q1⟩) fun ev s1 z => ⟨σ, z⟩) I.quiet hs
def xIf (tc : TT) (tx ty : TSx) : TSx := fun E D σ H => tc σ H fun b H1 => if b = true then tx E D σ H1 else ty E D σ H1
theorem pssx_one (h1 : PSx X st tx) : PSsx X [st] tx := by
  intro pins s σ H D E I h
  refine wpAny_execs_cons (wpAny_mono (h1 pins s σ H D E I h) (fun f s1 q => ?_) fun _ _ z => z)
  cases f with
  | next => exact wpAny_execs_nil q
  | ret v => exact q
  | brk => exact q
  | cont => exact q
def xSeq (tx ty : TSx) : TSx := fun E D σ H => tx E { D with nx := ty E D } σ H
end
end L2

set_option Elab.async false
set_option linter.all false
set_option maxRecDepth 100000
set_option maxHeartbeats 4000000
namespace L2
open PySem PySem.Spec PyProof.Rows
section
variable {M : Model} {A : Around} {E : Value → Shared → Prop} {s : Shared} {e C CB : Addr} {od : Option Addr} {lo : Nat} {H : Hp}
theorem fly_flight {Q : Unit → Shared → Prop} (F : Fly lo H s.heap e C od) (h : ∀ h', Fly lo H h' e C od → (∀ b o, s.heap.get? b = some o → (b < lo ∨ H b ≠ none) → h'.get? b = some o) → Q () { s with heap := h' }) :
    wpAny M A (setFlight (.ref e) none) Q E s := by
  obtain ⟨hge, hnt, vs, sl, he, hsz, h3⟩ := F
  unfold setFlight
  rcases h3 with h3 | ⟨T, oT, ts, h1, hTlo, hTn, hTe, hT, hdT, h3⟩
  · refine wpAny_bind (wpAny_field he rfl h3 ?_)
    rw [if_neg (by decide)]
    exact wpAny_pure (h _ ⟨hge, hnt, vs, sl, he, hsz, .inl h3⟩ fun b o q _ => q)
  · have hsz3 : 3 < ts.size := (Array.getElem?_eq_some_iff.mp h3).1
    refine wpAny_bind (wpAny_field he rfl h1 ?_)
    rw [if_pos (show (Value.ref T != Value.none) = true from by simp)]
    refine wpAny_setField hT hdT hsz3 (h _ ⟨hge, hnt, vs, sl, ?_, hsz, .inr ⟨T, _, _, h1, hTlo, hTn, hTe, Heap.get?_update_self _ hT (Obj.isFreed_of_fields (Obj.data_mapFields hdT _)), Obj.data_mapFields hdT _, by simp [hsz3]⟩⟩ fun b o q hb => ?_)
    · exact (Heap.get?_update_other _ _ hTe).trans he
    · refine (Heap.get?_update_other _ _ ?_).trans q
      rintro rfl
      rcases hb with hb | hb
      · exact absurd (Nat.lt_of_lt_of_le hb hTlo) (Nat.lt_irrefl _)
      · exact hb hTn
variable {nm q nmB qB : Str} {N NB : Addr} {bs bsB : List Value} {hdct hdB : Bool} {sn snB : List Str} {sub subB : List Value} {ab abB : Bool} {col colB : Option Bool} {dd ddB : Option Addr} {k0 k1 k2 k3 k5 l0 l1 l2 l3 l5 : Option Value}
theorem xmatch {h : Heap} {g : Array GenState} {d : Drawn} {t : Nat} {os : OsState} {oe : Obj} {Q : Bool → Shared → Prop} (hC : h.get? C = some (excClassObj nm q C N bs (bmX CB) hdct sn sub ab col dd k0 k1 k2 k3 k5 "ValueError.__new__"))
    (hB : h.get? CB = some (excClassObj nmB qB CB NB bsB bmV hdB snB subB abB colB ddB l0 l1 l2 l3 l5 "ValueError.__new__")) (he : h.get? e = some oe) (hcls : oe.cls = .ref C) (hq : Q true ⟨h, g, d, t, os⟩) :
    wpAny M A (excMatches (.ref e) (.ref CB)) Q E ⟨h, g, d, t, os⟩ := by
  have hcB : (Value.ref CB :: bmV).contains (.type "BaseException") = true := rfl
  have hcC : (Value.ref C :: bmX CB).contains (.ref CB) = true := by simp [List.contains_cons]
  have f := tc_notTuple
  unfold excMatches
  repeat (first | (with_reducible refine wpAny_loadPart_at he ?_; rw [hcls]) | with_reducible refine wpAny_loadPart_at hC ?_ | with_reducible refine wpAny_loadPart_at hB ?_ | (with_reducible refine wpAny_isSubtype_exc hC ?_; rw [hcC]) | (with_reducible refine wpAny_isSubtype_exc hB ?_; rw [hcB]) | wp_step)
  exact hq
end
/-- the context of an except suite -/
abbrev Cx.marked (X : Cx) (e : Addr) : Cx := { X with A := X.A.mark (some (.ref e)), calm := false }
section
variable {X : Cx} {pins : List (Addr × Obj)} {σ : St} {H : Hp} {s : Shared} {e : Addr}
theorem Cx.Ok.marked (ok : X.Ok) : (X.marked e).Ok :=
  ⟨ok.mod, ok.kind, ok.glob, ok.blt, ok.above, ok.inj, ok.has, ok.cab, fun z => Bool.noConfusion z, ok.frames, ok.stk, ok.exf, ok.bs, ok.bsz, ok.noex, ok.exfs, ok.funs, ok.frf⟩
theorem Inv.marked (I : Inv X pins σ H s) : Inv (X.marked e) pins σ H s := ⟨I.ok.marked, I.os, I.bare, I.base, I.loc, I.cell, I.free, I.freeC, I.pin, I.hok, I.len⟩
theorem Inv.unmarked (ok : X.Ok) (I : Inv (X.marked e) pins σ H s) : Inv X pins σ H s := ⟨ok, I.os, I.bare, I.base, I.loc, I.cell, I.free, I.freeC, I.pin, I.hok, I.len⟩
/-- an error has passed into this frame -/
theorem Inv.passed {H0 H' : Hp} {s0 s1 : Shared} {h' : Heap} (I0 : Inv X pins σ H0 s0) (hos : s1.os = s0.os) (bare : AllBare s1.gens) (un : Un (frs X.stack) [] H0 H' s0.heap s1.heap) (hok : HOk X.prog X.w H' s1.heap)
    (p : Past s0.heap.objs.size H' (frs X.stack) s1.heap h') (hfr : ∀ b ∈ frs X.stack, H' b = none) : Un (frs X.stack) [] H0 H' s0.heap h' ∧ HOk X.prog X.w H' h' ∧ ∀ tk, Inv X pins σ H' { s1 with heap := h', toks := tk } := by
  have un' : Un (frs X.stack) [] H0 H' s0.heap h' := by
    refine ⟨fun b o hb n hbf hx => p.keep b o (un.keep b o hb n hbf hx) (.inl (Heap.lt_size hb)) hbf, fun b o hb n hbf hx => ?_, un.free, fun b o hb hx => ?_, un.tups, un.frzs, un.tbls⟩
    · obtain ⟨sl, e1⟩ := un.slot b o hb n hbf hx
      obtain ⟨sl', e2⟩ := p.slot b _ e1 hbf
      exact ⟨sl', e2⟩
    · obtain ⟨o', e1⟩ := un.there b o hb hx
      by_cases hm : b ∈ frs X.stack
      · obtain ⟨sl, e2⟩ := p.slot b o' e1 hm
        exact ⟨_, e2⟩
      · exact ⟨o', p.keep b o' e1 (.inl (Heap.lt_size hb)) hm⟩
  have hok' := hok.past p hfr
  exact ⟨un', hok', fun tk => I0.call' (s' := { s1 with heap := h', toks := tk }) hos un' hok' bare fun b z => absurd z (by simp)⟩
/-- an error that was caught -/
def XC (x C : Addr) (od : Option Addr) : HO := .ext fun h => ∃ vs sl, h.get? x = some ⟨.ref C, od, .fields vs, sl⟩
theorem okXC {P : Program} {w : World} {H : Hp} {h : Heap} {x C : Addr} {od : Option Addr} {vs : Array Value} {sl : Array (Option Value)} (e : h.get? x = some ⟨.ref C, od, .fields vs, sl⟩) : ObjOk P w H h x (XC x C od) :=
  ⟨⟨vs, sl, e⟩, ⟨_, e⟩, fun h1 h2 ⟨vs', sl', e'⟩ k => ⟨vs', sl', k _ e'⟩⟩
/-- a thing that is younger than all that the code has is tracked -/
theorem Inv.track {x : Addr} {φ : Heap → Prop} (I : Inv X pins σ H s) (hn : H x = none) (hlo : X.s₀.heap.objs.size ≤ x) (hl : x ≠ X.env.locals) (hc : ∀ y c, X.env.cells.lookup y = some c → c ≠ x) (hp : ∀ p ∈ X.pn ++ pins, p.1 ≠ x) (ok : ObjOk X.prog X.w (upd H x (.ext φ)) s.heap x (.ext φ)) :
    Inv X pins σ (upd H x (.ext φ)) s := by
  have u := I.base
  refine ⟨I.ok, I.os, I.bare, ⟨u.keep, u.slot, fun b o q n hx => ?_, u.there, fun b xs q => ?_, fun b o v q => ?_, fun b ps q => ?_⟩, I.loc, I.cell, by rw [upd_ne (Ne.symm hl)]; exact I.free, fun y c e => by rw [upd_ne (hc y c e)]; exact I.freeC y c e, fun p hpp => ?_, fun a o e => ?_, I.len⟩
  · rw [upd_ne (fun z => by rw [z] at q; exact absurd (Nat.lt_of_lt_of_le (Heap.lt_size q) hlo) (Nat.lt_irrefl _))]; exact u.free b o q n hx
  · have e := u.tups b xs q
    rw [upd_ne (ne_of_none e hn)]; exact e
  · have e := u.frzs b o v q
    rw [upd_ne (ne_of_none e hn)]; exact e
  · obtain ⟨m, e⟩ := u.tbls b ps q
    exact ⟨m, by rw [upd_ne (ne_of_none e hn)]; exact e⟩
  · obtain ⟨a1, a2, a3⟩ := I.pin p hpp
    exact ⟨a1, by rw [upd_ne (hp p hpp)]; exact a2, a3⟩
  · by_cases z : a = x
    · subst z; rw [upd_same] at e; cases e; exact ok
    · rw [upd_ne z] at e
      refine (I.hok a o e).stay (fun b u _ q => q) (fun b q => ?_) fun b xs q => ?_
      · rw [upd_ne (ne_of_none q hn)]; exact q
      · rw [upd_ne (ne_of_none q hn)]; exact q
/-- the name behind 'as' goes -/
theorem Inv.nameGoes {j : Nat} {n : Str} {h' : Heap} {m : Str → Option Value} {v : Option Value} {tk : Nat} (I : Inv X pins σ H s) (hN : X.N.Nodup) (hj : X.N[j]? = some n) (hk : X.env.scope.names.lookup n = some .local)
    (hm : ∃ m, s.heap.Ns X.env.locals m ∧ (∀ (i : Nat) (x : Str) (v : V), X.N[i]? = some x → σ[i]? = some (some v) → Vis X.env.scope x → ∃ u, RelV v u ∧ Look X.env s.heap m x u) ∧ h'.Ns X.env.locals (fun x => if x = n then v else m x))
    (hs : Heap.SameBut X.env.locals s.heap h') : Inv X pins (σ.set j none) H { s with heap := h', toks := tk } := by
  obtain ⟨m, hn, hl, hn'⟩ := hm
  have cne := I.cne
  obtain ⟨oL, _, _, hoL, _⟩ := id hn
  refine ⟨I.ok, I.os, I.bare, ⟨fun b o e n hb hx => ?_, fun b o e n hb hx => ?_, I.base.free, fun b o e hx => ?_, I.base.tups, I.base.frzs, I.base.tbls⟩, ⟨_, hn', fun i y v' e1 e2 e3 => ?_⟩, fun y c e => ?_, I.free, I.freeC, fun p hp => ?_, fun b ob e => ?_, by simpa using I.len⟩
  · exact (hs.2 b (Nat.ne_of_lt (Nat.lt_of_lt_of_le (Heap.lt_size e) I.ok.above))).trans (I.base.keep b o e n hb hx)
  · obtain ⟨sl, e1⟩ := I.base.slot b o e n hb hx
    exact ⟨sl, (hs.2 b (Nat.ne_of_lt (Nat.lt_of_lt_of_le (Heap.lt_size e) I.ok.above))).trans e1⟩
  · obtain ⟨o', e1⟩ := I.base.there b o e hx
    exact ⟨o', (hs.2 b (Nat.ne_of_lt (Nat.lt_of_lt_of_le (Heap.lt_size e) I.ok.above))).trans e1⟩
  · by_cases hij : i = j
    · subst hij
      have : i < σ.length := by rw [I.len]; exact (List.getElem?_eq_some_iff.mp hj).1
      rw [List.getElem?_set_self this] at e2
      cases e2
    · rw [List.getElem?_set_ne (Ne.symm hij)] at e2
      obtain ⟨u', r', q⟩ := hl i y v' e1 e2 e3
      refine ⟨u', r', ?_⟩
      rcases q with ⟨k, e⟩ | ⟨k, c, e, z⟩
      · refine .inl ⟨k, ?_⟩
        have : y ≠ n := fun e => hij (nodup_ix hN e1 (e ▸ hj))
        simp [this, e]
      · exact .inr ⟨k, c, e, z.sameBut hs (cne y c e)⟩
  · obtain ⟨w', z⟩ := I.cell y c e
    exact ⟨w', z.sameBut hs (cne y c e)⟩
  · obtain ⟨e, n, ne, nf, d⟩ := I.pin p hp
    exact ⟨(hs.2 p.1 ne).trans e, n, ne, nf, d⟩
  · refine (I.hok b ob e).stay (fun c w' hc q => (hs.2 c ?_).trans q) (fun _ q => q) fun _ _ q => q
    rintro rfl
    have hfree := I.free
    rcases hc with rfl | hc
    · rw [hfree] at e; cases e
    · rw [hfree] at hc; cases hc
end
end L2

set_option Elab.async false
set_option linter.all false
set_option maxRecDepth 100000
set_option maxHeartbeats 4000000
namespace L2
open PySem PySem.Spec PyProof.Rows
/-- BandError's own object -/
structure XTop (K : PySem.W.Frag) (CB : Addr) (nm : Str) : Prop where
  lk : ∃ (q : Str) (N : Addr) (bs : List Value) (hd : Bool) (sn : List Str) (sub : List Value) (ab : Bool) (col : Option Bool) (dd : Option Addr) (k0 k1 k2 k3 k5 : Option Value),
    K.lookup CB = some (excClassObj nm q CB N bs bmV hd sn sub ab col dd k0 k1 k2 k3 k5 "ValueError.__new__")
/-- try: body / except CB as n: x = n -/
def tTry (K : PySem.W.Frag) (CB : Addr) (tb : TSx) (j i : Nat) : TS := fun D σ H => tb (fun σ' cv od H' => ∃ C nm, cv = .ref C ∧ XUnder K C CB nm ∧ ∀ e, H' e = none → D.nx (((σ'.set j (some (.ref e))).set i (some (.ref e))).set j none) (upd H' e (XC e C od))) D σ H
section
variable {X : Cx} {CB : Addr} {nmB n x nmT : Str} {body : List Stmt} {tb : TSx} {i j : Nat} {p1 p2 p3 p4 hpos pos : Pos}
theorem ps_try (hst : X.stack = X.env :: X.outer ∧ X.env.frame = some X.env.locals) (hb : PSsx X body tb) (hg : Gl X nmB) (hm : X.mg nmB = some (.ref CB)) (TB : XTop X.K CB nmT) (hN : X.N.Nodup) (hj : X.N[j]? = some n) (hi : X.N[i]? = some x)
    (hkn : X.env.scope.names.lookup n = some .local) (hx : Loc X.env.scope x) (hdb : (nmB == ("__debug__" : Str)) = false := by decide) (hdn : (n == ("__debug__" : Str)) = false := by decide) (hcn : (n == ("__classdict__" : Str)) = false := by decide)
    (hf : X.fn x = true ∨ X.env.scope.names.lookup x = some .local := by first | exact .inl rfl | exact .inr rfl | assumption) (hsw : swapsWith (.Name n p3) (some (.Name x p2)) p4.line X.env = pure false := by rfl) :
    PS X (.Try body [.ExceptHandler (some (.Name nmB p1)) (some n) [.Assign [.Name x p2] (.Name n p3) p4] hpos] [] [] pos) (tTry X.K CB tb j i) := by
  intro pins s σ H D I h
  refine wpAny_Try_except (wpAny_mono (hb pins s σ H D _ I h) (fun f s1 q => ?_) fun ev s1 q => ?_)
  · cases f with
    | next => exact wpAny_execs_nil q
    | ret v => exact q
    | brk => exact q
    | cont => exact q
  obtain ⟨σ0, H0, s0, I0, e, C', od, H', rfl, hos, bare, un, hok, F, C, nmx, hC', U, hD⟩ := q
  cases hC'

  have I1 : Inv X pins σ0 H' s1 := I0.call' hos un hok bare fun b z => absurd z (by simp)
  have hfs : (X.env :: X.outer).filterMap (·.frame) = frs X.stack := by rw [hst.1]; rfl
  have hfr := I1.stkFree
  have hlow : s0.heap.objs.size ≤ s1.heap.objs.size := Nat.le_of_not_lt fun z => by
    obtain ⟨hge, _, vs, sl, he, _⟩ := F
    exact absurd (Nat.lt_of_lt_of_le (Nat.lt_of_le_of_lt hge (Heap.lt_size he)) (Nat.le_of_lt z)) (Nat.lt_irrefl _)
  refine fly_pass (lo := s0.heap.objs.size) (H := H') (base := X.base) (outer := X.outer) (by rw [← hst.1]; exact I0.ok.frames) (by rw [← hst.1]; exact I1.stack) hst.2 hlow (fun b hb => hok.fresh hb) F fun h2 F2 p => ?_
  rw [hfs] at p
  obtain ⟨un2, hok2, J2⟩ := I0.passed hos bare un hok p hfr
  have I2 := J2 s1.toks
  -- the clause
  obtain ⟨qC, NC, bsC, snC, subC, abC, colC, ddC, c0, c1, c2, c3, c5, lkC⟩ := U.lk
  obtain ⟨qT, NT, bsT, hdT, snT, subT, abT, colT, ddT, t0, t1, t2, t3, t5, lkB⟩ := TB.lk
  obtain ⟨vs2, sl2, he2, _⟩ := id F2.ob
  refine wpAny_handleBy_cons (codeAny_handlers_test (ld_glob (X := X.marked e) (I2.marked (e := e)) hg hm ?_ hdb)) (by intro z; cases z)
  refine xmatch (I2.kIn _ _ lkC) (I2.kIn _ _ lkB) he2 rfl ?_
  refine codeAny_handlers_suite_as ?_
  refine fly_flight F2 fun h3 F3 k3 => ?_
  have p3' : Past s0.heap.objs.size H' (frs X.stack) h2 h3 := ⟨fun b o q hb _ => k3 b o q hb, fun b o q hb => ⟨o.slots, k3 b o q (.inl ?_)⟩⟩
  rotate_left
  · -- a frame is old
    have : ∃ o, s0.heap.get? b = some o := by
      obtain ⟨_, o, ho, _⟩ := I0.stack.mem hb
      exact ⟨o, ho⟩
    obtain ⟨o, ho⟩ := this
    exact Heap.lt_size ho
  obtain ⟨un3, hok3, J3⟩ := I0.passed (s1 := { s1 with heap := h2 }) hos bare un2 hok2 p3' hfr
  have I3 := J3 s1.toks
  obtain ⟨vs3, sl3, he3, _⟩ := id F3.ob
  have old : ∀ {b : Addr}, b < s0.heap.objs.size → b ≠ e := fun hb z => by rw [z] at hb; exact absurd (Nat.lt_of_lt_of_le hb F.ge) (Nat.lt_irrefl _)
  have I3t : Inv X pins σ0 (upd H' e (XC e C' od)) { s1 with heap := h3 } := I3.track F.nt (Nat.le_trans I0.sz F.ge) (Ne.symm (old I0.lt)) (fun y c hc => old (by
      obtain ⟨v, o, ho, _⟩ := I0.cell y c hc
      exact Heap.lt_size ho)) (fun p hp => old (Heap.lt_size (I0.pin p hp).1)) (okXC he3)
  refine store_ok (v := .ref e) I3t hN hj (.inl hkn) rfl (fun s4 I4 => ?_) (.inr hkn)
  -- x = n
  have hjl : j < σ0.length := by rw [I0.len]; exact (List.getElem?_eq_some_iff.mp hj).1
  have ev := pe_var (X := (X.marked e).nox) (pos := p3) hj (.inl hkn) hdn hcn pins s4 _ (upd H' e (XC e C' od)) (fun v H'' => v = .ref e ∧ H'' = upd H' e (XC e C' od)) ((I4.marked (e := e)).wish _) ⟨.ref e, List.getElem?_set_self hjl, rfl, rfl⟩
  refine wpAny_execs_cons (wpAny_Assign_Name (noxE (thn ev fun v s5 ⟨y, H5, I5, r5, ey, eH⟩ => ?_)) hsw)
  subst ey
  subst eH
  have I5 := (I5.unwish).unmarked I0.ok
  refine store_ok I5 hN hi hx r5 (fun s6 I6 => wpAny_execs_nil ?_) hf
  obtain ⟨m, hn, hl⟩ := id I6.loc
  refine wpAny_nameGoes_keeps hkn hn (by rw [I6.ok.kind]; rfl) fun h7 v7 hn7 hs7 => ?_
  exact ⟨_, _, I6.nameGoes (m := m) (tk := s6.toks + 1) hN hj hkn ⟨m, hn, hl, hn7⟩ hs7, hD e F.nt⟩
end
end L2

set_option Elab.async false
set_option linter.all false
set_option maxRecDepth 100000
set_option maxHeartbeats 4000000
namespace L2
open PySem PySem.Spec PyProof.Rows
open PySem.W (Looks looks_findIn looks_typeIn looks_find looks_hook looks_mroIn findIn clsIn specialIn takesIn mroIn typeIn subIn InstAt KitX kitOne kitCls kia_one findObj findObj_data class_get handed_on handedOut_of)
open Builtin Builtin.ObjectAttr
theorem XUnder.ne {K : PySem.W.Frag} {C D CB CB' : Addr} {nm nm' : Str} (U : XUnder K C CB nm) (U' : XUnder K D CB' nm') (h : ¬ nm = nm') : C ≠ D := fun e => by
  subst e
  obtain ⟨q, N, bs, sn, sub, ab, col, dd, k0, k1, k2, k3, k5, l1⟩ := U.lk
  obtain ⟨q', N', bs', sn', sub', ab', col', dd', l0, l1', l2, l3, l5, l2'⟩ := U'.lk
  rw [l1] at l2'
  have := congrArg (fun o => match o with | some (⟨_, _, .cls cd, _⟩ : Obj) => cd.name | _ => nm) l2'
  exact h this
theorem XUnder.neT {K : PySem.W.Frag} {C CB CB' : Addr} {nm nm' : Str} (U : XUnder K C CB nm) (T : XTop K CB' nm') (h : ¬ nm = nm') : C ≠ CB' := fun e => by
  subst e
  obtain ⟨q, N, bs, sn, sub, ab, col, dd, k0, k1, k2, k3, k5, l1⟩ := U.lk
  obtain ⟨q', N', bs', hd', sn', sub', ab', col', dd', l0, l1', l2, l3, l5, l2'⟩ := T.lk
  rw [l1] at l2'
  have := congrArg (fun o => match o with | some (⟨_, _, .cls cd, _⟩ : Obj) => cd.name | _ => nm) l2'
  exact h this
section
variable {prog : Program} {w : World} {A : Around} {E : Value → Shared → Prop} {s : Shared} {K : PySem.W.Frag} {x C CB D : Addr} {nm nm' nmT : Str} {od : Option Addr}
/-- the object of a caught error -/
def ExcAt (x C : Addr) (od : Option Addr) (h : Heap) : Prop := (∃ vs sl, h.get? x = some ⟨.ref C, od, .fields vs, sl⟩) ∧ ∀ d, od = some d → ∃ o, h.get? d = some o
theorem ExcAt.inst {h : Heap} (e : ExcAt x C od h) : ∃ ox o, InstAt h x ox C o := by
  obtain ⟨⟨vs, sl, hx⟩, hd⟩ := e
  cases od with
  | none => exact ⟨_, none, hx, rfl, rfl, trivial⟩
  | some d =>
    obtain ⟨o, ho⟩ := hd d rfl
    exact ⟨_, some o, hx, rfl, rfl, ho⟩
/-- what an error's class must have for isinstance -/
structure XIsi (K : PySem.W.Frag) (C : Addr) : Prop where
  ha : findIn K (.ref C) "__class__" = some (some (.builtin "object.__class__"))
  hn : specialIn K (.builtin "object.__class__") "__get__" = some (some (.builtin "getset_descriptor.__get__"))
  htk : takesIn K (.builtin "object.__class__") = some true
theorem exc_class {Q : Option Value → Shared → Prop} (U : XUnder K C CB nm) (Y : XIsi K C) (X : K.In s.heap) (I : ExcAt x C od s.heap) (h : Q (some (.ref C)) { s with toks := s.toks + 1 }) : wpAny (model prog w) A (getAttr? (.ref x) "__class__") Q E s := by
  obtain ⟨ox, o, I⟩ := I.inst
  obtain ⟨q, N, bs, sn, sub, ab, col, dd, k0, k1, k2, k3, k5, lk⟩ := U.lk
  have hc : ∃ cd, clsIn K C = some cd := ⟨_, by unfold clsIn; rw [lk]⟩
  have hm : mroIn K C (.type "object") = some true := by unfold mroIn clsIn; rw [lk]; rfl
  have hmB : mroIn K C (.type "BaseException") = some true := by unfold mroIn clsIn; rw [lk]; rfl
  have G := PySem.F.excAttr_ValueError.ga
  have hf : findObj K C o "__class__" = some (.bind (.builtin "getset_descriptor.__get__") (.builtin "object.__class__")) := by
    obtain ⟨cd, hc⟩ := hc
    unfold findObj
    rw [hc, Y.ha]
    simp only [Option.bind_some]
    rw [Y.hn]
    simp only [Option.bind_some]
    rw [Y.htk]
    rfl
  unfold getAttr? getAttrBy? getAttrBy
  refine wpAny_bind (wpAny_mkText (wpAny_bind (wpAny_attempt (wpAny_holding (wpAny_bind (I.type _ _ _ _ (fun _ _ e => e) (wpAny_bind (looks_findIn X U.ga _ _ _ _ (fun _ _ e => e) ?_))))))))
  dsimp only
  rw [show (onTheHeap (Value.ref C) && Value.builtin "BaseException.__getattribute__" == Value.builtin "object.__getattribute__") = false from by rw [show (Value.builtin "BaseException.__getattribute__" == Value.builtin "object.__getattribute__") = false from by decide +kernel, Bool.and_false], if_neg (by decide)]
  have hb : Looks (model prog w) s.heap (hookBefore (.ref C)) none := looks_hook X (by show (if onTheHeap (Value.ref C) then findIn K (.ref C) "__getattr__" else some none) = some none; rw [if_pos (show onTheHeap (Value.ref C) = true from rfl)]; exact U.gh)
  refine wpAny_bind (hb _ _ _ _ (fun _ _ e => e) (wpAny_bind (wpAny_attempt (wpAny_holding ?_))))
  unfold callGetattribute
  rw [show (false && onTheHeap (Value.builtin "BaseException.__getattribute__")) = false from rfl, if_neg (by decide)]
  unfold boundAndCalled
  rw [G.bind]
  refine wpAny_bind (wpAny_pure ?_)
  show wpAny _ _ (call (.builtin "BaseException.__getattribute__") [.ref x, .str "__class__" s.toks]) _ _ _
  refine wpAny_call ?_
  have sub : Looks (model prog w) s.heap (isInstance (.ref x) (.type "BaseException")) true := I.type.andThen (looks_mroIn X hmB)
  refine codeAny_call_builtin G.plain PySem.F.entry_bexc_ga ?_
  refine @PySem.W.check_slot (model prog w) _ _ { s with toks := s.toks + 1 } "BaseException.__getattribute__" "BaseException" "__getattribute__" (.ref x) [.str "__class__" s.toks] [] _ (by decide +kernel) (by decide +kernel) sub (PySem.F.args_bexc_ga (.ref x) (.str "__class__" s.toks)) ?_
  have L0 := I.type (M := model prog w)
  have L1 := looks_find (M := model prog w) X I hf
  unfold Builtin.«object.__getattribute__»
  refine wpAny_bind (wpAny_pure ?_)
  refine wpAny_bind (wpAny_pure (wpAny_bind (L0 _ _ _ _ (fun _ _ e => e) (wpAny_bind (L1 _ _ _ _ (fun _ _ e => e) ?_)))))
  show wpAny _ _ (holding [.builtin "object.__class__"] (call (.builtin "getset_descriptor.__get__") [.builtin "object.__class__", .ref x, .ref C]) >>= ret) _ _ _
  refine wpAny_bind (wpAny_holding (wpAny_call (class_get (s := { s with toks := s.toks + 1 }) (ox := ox) (od := o) X I hm ?_)))
  refine wpAny_pure ?_
  exact handed_on rfl (wpAny_pure h)
theorem kitx_exc (U : XUnder K C CB nm) (Y : XIsi K C) : KitX K (.ref x) (.ref C) (ExcAt x C od) where
  ty := fun M h X I => by
    obtain ⟨ox, o, I⟩ := I.inst
    exact I.type
  it := fun M h X I => by
    obtain ⟨q, N, bs, sn, sub, ab, col, dd, k0, k1, k2, k3, k5, lk⟩ := U.lk
    intro A' Q' E' s' k q
    unfold isType loadHead
    exact wpAny_bind (wpAny_loadPart (k _ _ (X _ _ lk)) (wpAny_pure q))
  ne := fun h tp dd' its n sl X htp => by
    obtain ⟨q, N, bs, sn, sub, ab, col, dd, k0, k1, k2, k3, k5, lk⟩ := U.lk
    refine Bool.eq_false_iff.mpr fun q => ?_
    have e : C = tp := Value.ref.inj (beq_iff_eq.mp q)
    subst e
    have z := congrArg (fun o => o.map (·.cls)) ((X _ _ lk).symm.trans htp)
    simp at z
  ca := fun X I k => exc_class U Y X I k
theorem kit_same : kitOne K (.ref C) (.ref C) = some true := by
  unfold kitOne
  rw [if_pos (by simp)]
theorem XUnder.cls (V : XUnder K D CB nm') : (clsIn K D).isSome = true ∧ typeIn K (.ref D) = some (.type "type") := by
  obtain ⟨q', N', bs', sn', sub', ab', col', dd', l0, l1, l2, l3, l5, lk'⟩ := V.lk
  refine ⟨by unfold clsIn; rw [lk']; rfl, ?_⟩
  show Option.map (fun x => x.cls) (K.lookup D) = some (.type "type")
  rw [lk']
  rfl
theorem kit_value (U : XUnder K C CB nm) : kitOne K (.ref C) (.type "ValueError") = some true := by
  unfold kitOne
  rw [if_neg (by simp)]
  obtain ⟨q, N, bs, sn, sub, ab, col, dd, k0, k1, k2, k3, k5, lk⟩ := U.lk
  unfold kitCls
  dsimp only
  rw [if_pos (by decide +kernel)]
  unfold subIn mroIn clsIn
  dsimp only
  rw [lk]
  rfl
end
/-- is a value of the class -/
inductive IsiV (K : PySem.W.Frag) (H : Hp) : V → V → Bool → Prop where
  | exc {e C CB : Addr} {od : Option Addr} {nm : Str} {D : Addr} {b : Bool} (h : H e = some (XC e C od)) (hd : ∀ d, od = some d → ∃ fs, H d = some (.xd fs)) (U : XUnder K C CB nm) (Y : XIsi K C) (k : kitOne K (.ref C) (.ref D) = some b) : IsiV K H (.ref e) (.ref D) b
  | val {e C CB : Addr} {od : Option Addr} {nm : Str} {T : String} {b : Bool} (h : H e = some (XC e C od)) (hd : ∀ d, od = some d → ∃ fs, H d = some (.xd fs)) (U : XUnder K C CB nm) (Y : XIsi K C) (k : kitOne K (.ref C) (.type T) = some b) : IsiV K H (.ref e) (.ty T) b
  | oth {x : V} {t : Value} {D : Addr} {b : Bool} (h : TyOf K H x t) (k : kitOne K t (.ref D) = some b) : IsiV K H x (.ref D) b
  | otb {x : V} {t : Value} {T : String} {b : Bool} (h : TyOf K H x t) (k : kitOne K t (.type T) = some b) : IsiV K H x (.ty T) b
section
variable {X : Cx}
theorem call_isiX : CallR X (.builtin "isinstance") (fun xs H Q => ∃ x c b, xs = [x, c] ∧ IsiV X.K H x c b ∧ Q (.bl b) H) := by
  intro pins s σ H xs us Q I r h
  obtain ⟨x, c, b, rfl, iv, q⟩ := h
  obtain ⟨u, w', rfl, r1, r2⟩ := vals2 r
  have at_ : ∀ {e C : Addr} {od : Option Addr}, H e = some (XC e C od) → (∀ d, od = some d → ∃ fs, H d = some (.xd fs)) → ExcAt e C od s.heap := fun {e C od} h hd => by
    obtain ⟨⟨vs, sl, he⟩, _⟩ := I.hok e _ h
    refine ⟨⟨vs, sl, he⟩, fun d e => ?_⟩
    obtain ⟨fs, hf⟩ := hd d e
    obtain ⟨mA, ⟨o, _, _, ho, _⟩, _⟩ := I.hok d _ hf
    exact ⟨o, ho⟩
  cases iv with
  | exc h hd U Y k =>
    cases r1; cases r2
    exact kia_one (kitx_exc U Y) I.kIn (at_ h hd) k (fun z => nomatch z) fun tk => ⟨.bl b, H, I.tok tk, rfl, q⟩
  | val h hd U Y k =>
    cases r1; cases r2
    exact kia_one (kitx_exc U Y) I.kIn (at_ h hd) k (fun z => nomatch z) fun tk => ⟨.bl b, H, I.tok tk, rfl, q⟩
  | oth h k =>
    cases r2
    exact isinst_ok I r1 h k fun tk => ⟨.bl b, H, I.tok tk, rfl, q⟩
  | otb h k =>
    cases r2
    exact isinst_ok I r1 h k fun tk => ⟨.bl b, H, I.tok tk, rfl, q⟩
/-- e.name of a caught error -/
def tXFld (K : PySem.W.Frag) (ta : TE) (f : Str) : TE := fun σ H Q => ta σ H fun y H1 => ∃ e C CB d nm fs v, y = .ref e ∧ H1 e = some (XC e C (some d)) ∧ H1 d = some (.xd fs) ∧ XUnder K C CB nm ∧ findIn K (.ref C) f = some none ∧ fs.lookup f = some v ∧ Q v H1
end
end L2

set_option Elab.async false
set_option linter.all false
set_option maxRecDepth 100000
set_option maxHeartbeats 4000000
namespace L2
open PySem
/-- an error that cannot be -/
theorem passE0 {P : Program} {w : World} {X : Cx} : Passes (CXe P w) X E0 := fun _ _ _ _ _ _ _ h => by
  obtain ⟨_, _, _, _, _, _, _, _, _, _, hE⟩ := h
  exact hE.elim
end L2
namespace Sx
open PySem L2 Bs
theorem bVE : bootBuiltins "ValueError" = some (.type "ValueError") := by decide +kernel
theorem bInt : bootBuiltins "int" = some (.type "int") := by decide +kernel
theorem bBool : bootBuiltins "bool" = some (.type "bool") := by decide +kernel
theorem bSum : bootBuiltins "sum" = some (.builtin "sum") := by decide +kernel
structure XRaw (K : PySem.W.Frag) (C CB : Addr) (nm : Str) : Prop where
  lk : ∃ (q : Str) (N : Addr) (bs : List Value) (sn : List Str) (sub : List Value) (ab : Bool) (col : Option Bool) (dd : Option Addr) (k0 k1 k2 k3 k5 : Option Value),
    K.lookup C = some (excClassObj nm q C N bs (bmX CB) true sn sub ab col dd k0 k1 k2 k3 k5 "ValueError.__new__")
theorem xraw_mk {K : PySem.W.Frag} {C CB : Addr} {nm q : Str} {N : Addr} {bs : List Value} {sn : List Str} {sub : List Value} {ab : Bool} {col : Option Bool} {dd : Option Addr} {k0 k1 k2 k3 k5 : Option Value}
    (l : K.lookup C = some (excClassObj nm q C N bs (bmX CB) true sn sub ab col dd k0 k1 k2 k3 k5 "ValueError.__new__")) : XRaw K C CB nm := ⟨q, N, bs, sn, sub, ab, col, dd, k0, k1, k2, k3, k5, l⟩
theorem xtop_mk {K : PySem.W.Frag} {CB : Addr} {nm q : Str} {N : Addr} {bs : List Value} {hd : Bool} {sn : List Str} {sub : List Value} {ab : Bool} {col : Option Bool} {dd : Option Addr} {k0 k1 k2 k3 k5 : Option Value}
    (l : K.lookup CB = some (excClassObj nm q CB N bs bmV hd sn sub ab col dd k0 k1 k2 k3 k5 "ValueError.__new__")) : XTop K CB nm := ⟨q, N, bs, hd, sn, sub, ab, col, dd, k0, k1, k2, k3, k5, l⟩
/-- an error's own __init__ with one attribute -/
def spX1 (C : Addr) (name : Str) (ok : V → Prop) : Sp := fun vs H Q _ => ∃ x v, vs = [.ref x, v] ∧ ok v ∧ H x = some (XN x C) ∧ ∀ d, H d = none → Q .non (upd (upd H d (.xd [(name, v)])) x (XD x C d))
end Sx

set_option Elab.async false
set_option linter.all false
set_option maxRecDepth 100000
set_option maxHeartbeats 4000000
namespace Sx
open PySem PySem.Spec PyProof.Rows L2
open PySem.W (clsIn mroIn typeIn subIn kitOne kitCls)
section
variable {K : PySem.W.Frag} {C CB D : Addr} {nm nm' nmT : Str}
theorem XRaw.ne (U : XUnder K C CB nm) (V : XRaw K D CB nm') (h : ¬ nm = nm') : C ≠ D := fun e => by
  subst e
  obtain ⟨q, N, bs, sn, sub, ab, col, dd, k0, k1, k2, k3, k5, l1⟩ := U.lk
  obtain ⟨q', N', bs', sn', sub', ab', col', dd', l0, l1', l2, l3, l5, l2'⟩ := V.lk
  rw [l1] at l2'
  have := congrArg (fun o => match o with | some (⟨_, _, .cls cd, _⟩ : Obj) => cd.name | _ => nm) l2'
  exact h this
theorem XRaw.neT (V : XRaw K D CB nm') (T : XTop K CB nmT) (h : ¬ nm' = nmT) : D ≠ CB := fun e => by
  subst e
  obtain ⟨q, N, bs, sn, sub, ab, col, dd, k0, k1, k2, k3, k5, l1⟩ := V.lk
  obtain ⟨q', N', bs', hd', sn', sub', ab', col', dd', l0, l1', l2, l3, l5, l2'⟩ := T.lk
  rw [l1] at l2'
  have := congrArg (fun o => match o with | some (⟨_, _, .cls cd, _⟩ : Obj) => cd.name | _ => nm') l2'
  exact h this
theorem XRaw.cls (V : XRaw K D CB nm') : (clsIn K D).isSome = true ∧ typeIn K (.ref D) = some (.type "type") := by
  obtain ⟨q', N', bs', sn', sub', ab', col', dd', l0, l1, l2, l3, l5, lk'⟩ := V.lk
  refine ⟨by unfold clsIn; rw [lk']; rfl, ?_⟩
  show Option.map (fun x => x.cls) (K.lookup D) = some (.type "type")
  rw [lk']
  rfl
/-- an error of one class is none of another, of which no more is known -/
theorem kit_diffR (U : XUnder K C CB nm) (V : XRaw K D CB nm') (T : XTop K CB nmT) (hT : ¬ nm' = nmT) (e : ¬ nm = nm') : kitOne K (.ref C) (.ref D) = some false := by
  unfold kitOne
  have ne := XRaw.ne U V e
  rw [if_neg (by simpa using ne)]
  obtain ⟨q, N, bs, sn, sub, ab, col, dd, k0, k1, k2, k3, k5, lk⟩ := U.lk
  obtain ⟨h1, h2⟩ := V.cls
  unfold kitCls
  dsimp only
  rw [h1, h2, if_pos (by rfl)]
  unfold subIn mroIn clsIn
  dsimp only
  rw [lk]
  show some ((Value.ref C :: bmX CB).contains (.ref D)) = some false
  have n1 : (Value.ref D == Value.ref C) = false := by simpa using Ne.symm ne
  have n2 : (Value.ref D == Value.ref CB) = false := by simpa using V.neT T hT
  simp only [List.contains_cons, n1, n2, Bool.false_or]
  rfl
end
end Sx

set_option Elab.async false
set_option linter.all false
set_option maxRecDepth 100000
set_option maxHeartbeats 4000000
/-! the places of a band and its good rows, on lists of signs -/
namespace AC
section
variable {W : List (List Nat)} {P : List Nat → Bool} {l m p q u : List Nat} {c : Nat}
def Good (W : List (List Nat)) (l : List Nat) : Prop := ∀ w ∈ W, ¬ w <:+: l
def Pl (W : List (List Nat)) (p : List Nat) : Prop := p = [] ∨ ((∃ w ∈ W, p <+: w ∧ p.length < w.length) ∧ Good W p)
theorem Good.sub (h : Good W l) (hs : m <:+: l) : Good W m := fun w hw hi => h w hw (hi.trans hs)
theorem Pl.init (h : Pl W (u ++ [c])) : Pl W u := by
  rcases h with h | ⟨⟨w, hw, hp, hl⟩, hg⟩
  · simp at h
  · by_cases e : u = []
    · exact .inl e
    · refine .inr ⟨⟨w, hw, (List.prefix_append u [c]).trans hp, ?_⟩, hg.sub (List.prefix_append u [c]).isInfix⟩
      rw [List.length_append] at hl
      simp at hl
      omega
/-- the longest end that is P -/
def lsuf (P : List Nat → Bool) : List Nat → List Nat
  | [] => []
  | a :: l => if P (a :: l) = true then a :: l else lsuf P l
theorem lsuf_P (h0 : P [] = true) : ∀ l, P (lsuf P l) = true
  | [] => h0
  | a :: l => by
    unfold lsuf
    split
    · assumption
    · exact lsuf_P h0 l
end
end AC
namespace Bs
open PySem AC
theorem subAt_iff (x y : Str) (i : Nat) : Builtin.Str.subAt x y i = true ↔ ((ch x).drop i).take y.length = ch y := by
  unfold Builtin.Str.subAt
  rw [beq_iff_eq]
  constructor
  · intro h
    have := congrArg Array.toList h
    rw [Array.toList_extract, List.extract_eq_take_drop, Nat.add_sub_cancel_left] at this
    exact this
  · intro h
    refine Array.toList_inj.mp ?_
    rw [Array.toList_extract, List.extract_eq_take_drop, Nat.add_sub_cancel_left]
    exact h
theorem inS_iff (y x : Str) : inS y x = true ↔ ch y <:+: ch x := by
  unfold inS
  rw [StrLaws.found_iff]
  constructor
  · rintro ⟨i, hi, hs⟩
    have hs' := (subAt_iff x y i).mp hs
    rw [← hs']
    exact (List.take_prefix _ _).isInfix.trans (List.drop_suffix _ _).isInfix
  · rintro ⟨a, b, e⟩
    refine ⟨a.length, ?_, (subAt_iff x y _).mpr ?_⟩
    · rw [← len_ch x, ← e, List.length_append, List.length_append, len_ch]; omega
    · rw [← e, List.append_assoc, List.drop_left, ← len_ch y, List.take_left]
def wl (ws : List Str) : List (List Nat) := ws.map ch
theorem bears_iff (ws : List Str) (r : Str) : bears ws r = false ↔ Good (wl ws) (ch r) := by
  unfold bears Good wl
  rw [List.any_eq_false]
  constructor
  · intro h w hw hi
    obtain ⟨v, hv, rfl⟩ := List.mem_map.mp hw
    exact h v hv ((inS_iff v r).mpr hi)
  · intro h v hv hi
    exact h (ch v) (List.mem_map.mpr ⟨v, hv, rfl⟩) ((inS_iff v r).mp hi)
/-! ### the places of a band -/
theorem ch_take (w : Str) (n : Nat) : ch (takeS w n) = (ch w).take n := slice_to w n
theorem ch_drop (w : Str) (n : Nat) : ch (dropS w n) = (ch w).drop n := slice_from w n
/-- the longest end that is a place -/
def isP (ss : List Str) (l : List Nat) : Bool := decide (l ∈ ss.map ch)
theorem isP_iff {ss : List Str} {k : Str} : isP ss (ch k) = true ↔ k ∈ ss := by
  unfold isP
  rw [decide_eq_true_iff]
  constructor
  · intro h
    obtain ⟨k', h1, h2⟩ := List.mem_map.mp h
    rw [← ext_ch h2]
    exact h1
  · intro h
    exact List.mem_map.mpr ⟨k, h, rfl⟩
theorem lsuf_drop {P : List Nat → Bool} (h0 : P [] = true) : ∀ {l : List Nat} {n : Nat}, P (l.drop n) = true → (∀ m, m < n → P (l.drop m) = false) → lsuf P l = l.drop n
  | [], n, _, _ => by simp [lsuf]
  | a :: l, 0, h1, _ => by
    unfold lsuf
    rw [List.drop_zero] at h1
    rw [if_pos h1]
    rfl
  | a :: l, n + 1, h1, h2 => by
    have := h2 0 (by omega)
    rw [List.drop_zero] at this
    unfold lsuf
    rw [this, if_neg (by simp), List.drop_succ_cons]
    exact lsuf_drop h0 (by simpa using h1) fun m hm => by simpa using h2 (m + 1) (by omega)
theorem ch_lend {ss : List Str} (he : ("" : Str) ∈ ss) (r : Str) : ch (lend ss r) = lsuf (isP ss) (ch r) := by
  have hx : ∃ n, n ≤ r.length ∧ dropS r n ∈ ss ∧ ∀ m, m < n → dropS r m ∉ ss := by
    have h1 : ∃ n, dropS r n ∈ ss := ⟨r.length, by rw [dropS_all]; exact he⟩
    have key : ∀ k, (∃ n, n < k ∧ dropS r n ∈ ss ∧ ∀ m, m < n → dropS r m ∉ ss) ∨ ∀ m, m < k → dropS r m ∉ ss := by
      intro k
      induction k with
      | zero => right; intro m hm; omega
      | succ k ih =>
        rcases ih with ⟨n, hn, h⟩ | h
        · exact .inl ⟨n, by omega, h⟩
        · by_cases hk : dropS r k ∈ ss
          · exact .inl ⟨k, by omega, hk, h⟩
          · right
            intro m hm
            by_cases e : m = k
            · rw [e]; exact hk
            · exact h m (by omega)
    rcases key (r.length + 1) with ⟨n, hn, h⟩ | h
    · exact ⟨n, by omega, h⟩
    · exact absurd (by rw [dropS_all]; exact he) (h r.length (by omega))
  obtain ⟨n, hn, hm, hl⟩ := hx
  unfold lend
  rw [lendN_eq hm hl hn, ch_drop]
  refine (lsuf_drop (isP_iff (k := "").mpr he) ?_ fun m hm' => ?_).symm
  · rw [← ch_drop]; exact isP_iff.mpr hm
  · rw [← ch_drop]
    have := hl m hm'
    rw [← isP_iff] at this
    simpa using this
section
variable {ws ss : List Str} {r : Str} {c : Nat}
theorem bears_pre {a b : Str} (h : ch a <:+: ch b) (hg : bears ws b = false) : bears ws a = false := (bears_iff ws a).mpr (((bears_iff ws b).mp hg).sub h)
/-- the end that the law looks for: the first start -/
def lawEnd (ws : List Str) (e : Str) : Bool := ws.any fun w => decide (e.length < w.length) && Txt.startswith w e
end
end Bs

set_option Elab.async false
set_option linter.all false
set_option maxRecDepth 100000
set_option maxHeartbeats 4000000
namespace L2
open PySem PySem.Spec PyProof.Rows
section
variable {X : Cx}
/-- range(n), kept as a value -/
theorem call_range1 : CallR X (.type "range") (fun xs H Q => ∃ j : Int, xs = [.int j] ∧ ∀ p, H p = none → Q (.ref p) (upd H p (.rng 0 j))) := by
  intro pins s σ H xs us Q I r h
  obtain ⟨j, rfl, q⟩ := h
  obtain ⟨u, rfl, t, rfl⟩ := vals1 r
  refine call_range_1 ⟨.ref s.heap.objs.size, _, I.laid (fun b ob q => Heap.get?_push_of_some _ q) (Nat.le_refl _) (show ObjOk X.prog X.w _ _ _ (.rng 0 j) from ⟨_, _, _, Heap.get?_push_size _ rfl⟩), rfl, q _ (I.hok.fresh (Nat.le_refl _))⟩
/-- list(range) -/
theorem call_listR (hc : X.calm = true) : CallR X (.type "list") (fun xs H Q => ∃ (p : Addr) (n : Nat), xs = [.ref p] ∧ H p = some (.rng 0 (n : Int)) ∧ n ≤ sizeLine ∧ ∀ l, H l = none → Q (.ref l) (upd H l (.lst ((List.range n).map fun i => V.int (i : Nat))))) := by
  intro pins s σ H xs us Q I r h
  obtain ⟨p, n, rfl, hp, hn, q⟩ := h
  obtain ⟨u, rfl, ru⟩ := vals1 r
  cases ru
  obtain ⟨t, u, v, e⟩ := I.hok p _ hp
  have hn' : n ≤ 2 ^ 24 := by rw [sizeLine_eq] at hn; omega
  refine call_list_range (I.ok.hd hc) (n := n) (show IsRange s.heap p 0 (n : Int) 1 t u v from e) (small_one (by omega) (by omega) (by omega) (by omega)) (by rw [rangeSize_one]; split <;> omega) hn' fun h' tk acc c kp hD hacc => ?_
  have rv : ∀ (us : List Value) (k : Nat), (∀ (j : Nat) (u : Value), us[j]? = some u → ∃ t, u = .int ((k + j : Nat) : Int) t) → Vals ((List.range' k us.length).map fun i => V.int (i : Nat)) us := by
    intro us
    induction us with
    | nil => intro k _; exact .nil
    | cons u us ih =>
      intro k h
      obtain ⟨t, e⟩ := h 0 u rfl
      rw [List.length_cons, List.range'_succ, List.map_cons]
      refine .cons ⟨t, e⟩ (ih (k + 1) fun j u h' => ?_)
      obtain ⟨t, e⟩ := h (j + 1) u (by simpa using h')
      exact ⟨t, by rw [e]; congr 1; omega⟩
  have hl : acc.toList.length = n := by rw [Array.length_toList]; exact hacc.1
  have r1 := rv acc.toList 0 fun j u e => by
    obtain ⟨t, e2⟩ := hacc.2 j u (by rw [← Array.getElem?_toList]; exact e)
    exact ⟨t, by rw [e2]; congr 1; omega⟩
  rw [hl, ← List.range_eq_range'] at r1
  refine ⟨.ref s.heap.objs.size, _, I.laid (t' := tk) kp (Nat.le_refl _) (show ObjOk X.prog X.w _ h' _ (.lst ((List.range n).map fun i => V.int (i : Nat))) from ⟨?_, acc.toList, c, r1, ?_⟩), rfl, q _ (I.hok.fresh (Nat.le_refl _))⟩
  · rw [List.length_map, List.length_range]
    exact hn
  · rw [Array.toArray_toList]
    exact hD
/-- xs[::-1] of a list -/
def rRev (K : PySem.W.Frag) : V → Hp → VK → Prop := fun x H Q => ∃ a xs, x = .ref a ∧ SqL K H a xs ∧ ∀ p, H p = none → Q (.ref p) (upd H p (.lst xs.reverse))
def tRev (K : PySem.W.Frag) (te : TE) : TE := fun σ H Q => te σ H fun x H1 => rRev K x H1 Q
end
/-! ### enumerate of a text -/
def Itse (z : Str) : It := ⟨fun i _ => i < z.cps.size, fun i H x H' => ∃ T, H T = none ∧ x = .ref T ∧ H' = upd H T (.tup [.int (i : Nat), signV z i]), fun i _ => z.cps.size ≤ i⟩
section
variable {X : Cx}
def iEnumS (ta : TA) : TI := fun σ H R => ta σ H fun vs H1 => ∃ z, vs = [.str z] ∧ R (Itse z) H1
end

end L2
namespace Sx
open PySem L2
theorem bRange' : bootBuiltins "range" = some (.type "range") := by decide +kernel
end Sx

set_option Elab.async false
set_option linter.all false
set_option maxRecDepth 100000
set_option maxHeartbeats 4000000
namespace Sx
open PySem L2 Bs
/-- a thing that may be handed in -/
inductive Thing (H : Hp) : V → Prop where
  | flat {v : V} (h : flatV v = true) : Thing H v
  | lst {a : Addr} {xs : List V} (h : H a = some (.lst xs)) (f : xs.all flatV = true) : Thing H (.ref a)
  | tup {a : Addr} {xs : List V} (h : H a = some (.tup xs)) (f : xs.all flatV = true) : Thing H (.ref a)
  | dic {a : Addr} (h : H a = some (.dK [])) : Thing H (.ref a)
theorem Thing.same {H H' : Hp} {v : V} (t : Thing H v) (s : Same H H') : Thing H' v := by
  cases t with
  | flat h => exact .flat h
  | lst h f => exact .lst (s _ _ h) f
  | tup h f => exact .tup (s _ _ h) f
  | dic h => exact .dic (s _ _ h)
section
variable {P : Program} {w : World} {K : PySem.W.Frag} {mg : Str → Option Value} {base : Heap} {f : Addr} {fd : FuncData}
/-- what is no place: the error has it -/
def NoPl (CN : Addr) (v : V) (H : Hp) (E : XK) : Prop := ∀ (d : Addr) (H' : Hp), Same H H' → H d = none → H' d = some (.xd [("place", v)]) → E (.ref CN) (some d) H'
def spCPE (C CN : Addr) : Sp := fun vs H Q E => ∃ (x : Addr) (v : V) (g : Str) (ws ss ls : List Str), vs = [.ref x, v] ∧ BandAt C H x g ws ss ls ∧ Thing H v ∧ ((∃ p, v = .str p ∧ p ∈ ss ∧ Q .non H) ∨ ((∀ p ∈ ss, v ≠ .str p) ∧ NoPl CN v H E))
def spLedE (C CN : Addr) : Sp := fun vs H Q E => ∃ (x : Addr) (v : V) (c : Nat) (g : Str) (ws ss ls : List Str), vs = [.ref x, v, .str ⟨#[c]⟩] ∧ BandAt C H x g ws ss ls ∧ Thing H v ∧ c ∈ ch g ∧ ((∃ p, v = .str p ∧ p ∈ ss ∧ Q (mvV ws ss p c) H) ∨ ((∀ p ∈ ss, v ≠ .str p) ∧ NoPl CN v H E))
end
end Sx

set_option Elab.async false
set_option linter.all false
set_option maxRecDepth 100000
set_option maxHeartbeats 4000000
namespace PySem.SeqAt
open AutoSeq1 (wpAny_loadPart')
open MeetsSeq
section
variable {A : Around} {s : Shared}
end
end PySem.SeqAt
namespace L2
open PySem PySem.Spec PyProof.Rows Sx
section
variable {X : Cx}
def rNotInT (K : PySem.W.Frag) : R2 := fun x y H Q => ∃ p ss, y = .ref p ∧ SqL K H p (List.map V.str ss) ∧ Thing H x ∧ (((∃ k ∈ ss, x = .str k) ∧ Q (.bl false) H) ∨ ((∀ k ∈ ss, x ≠ .str k) ∧ Q (.bl true) H))
end
end L2

set_option Elab.async false
set_option linter.all false
set_option maxRecDepth 100000
set_option maxHeartbeats 4000000
namespace L2
open PySem PySem.Spec PyProof.Rows
section
variable {X : Cx}
theorem op_mulS : OpR X (binaryOp .Mult) (fun x y H Q => ∃ z n, x = .str z ∧ y = .int n ∧ MulOk z n ∧ Q (.str (Txt.mul z n)) H) := by
  intro pins s σ H x y v u Q I rx ry h
  obtain ⟨z, n, rfl, rfl, ok, q⟩ := h
  obtain ⟨t, rfl⟩ := rx
  obtain ⟨t', rfl⟩ := ry
  exact SB.mul ok fun t2 k => ⟨.str _, H, I.tok k, ⟨t2, rfl⟩, q⟩
end
theorem eqSelf (v : V) : V.bl (decide (v = v)) = V.bl true := by simp
end L2

set_option Elab.async false
set_option linter.all false
set_option maxRecDepth 100000
set_option maxHeartbeats 4000000
namespace Bs
open PySem AC
theorem lend_mem {ss : List Str} (he : ("" : Str) ∈ ss) (r : Str) : lend ss r ∈ ss := by
  rw [← isP_iff, ch_lend he]
  exact lsuf_P (isP_iff (k := "").mpr he) _
theorem take_zero (r : Str) : takeS r 0 = "" := ext_ch (by rw [ch_take]; rfl)
theorem take_all (r : Str) : takeS r r.length = r := ext_ch (by rw [ch_take, ← len_ch, List.take_length])
theorem bears_nil {ws : List Str} (hw : ∀ w ∈ ws, 1 ≤ w.length) : bears ws "" = false := by
  refine (bears_iff ws "").mpr fun w hm hi => ?_
  obtain ⟨v, hv, rfl⟩ := List.mem_map.mp hm
  have h1 := hw v hv
  have h2 := hi.length_le
  rw [len_ch] at h2
  have : (ch ("" : Str)).length = 0 := rfl
  omega
end Bs
namespace L2
open PySem Bs
end L2
namespace Sx
open PySem L2 Bs
section
variable {P : Program} {w : World} {K : PySem.W.Frag} {mg : Str → Option Value} {base : Heap} {f : Addr} {fd : FuncData}
def spCheckRow (C : Addr) : Sp := fun vs H Q _ => ∃ (x : Addr) (r g : Str) (ws ss ls : List Str), vs = [.ref x, .str r] ∧ BandAt C H x g ws ss ls ∧ (∀ c ∈ ch r, c ∈ ch g) ∧ ∀ H', Same H H' → Q .non H'
def spPlaceOf (C : Addr) : Sp := fun vs H Q _ => ∃ (x : Addr) (r g : Str) (ws ss ls : List Str), vs = [.ref x, .str r] ∧ BandAt C H x g ws ss ls ∧ (∀ c ∈ ch r, c ∈ ch g) ∧ bears ws r = false ∧ (∀ w ∈ ws, 1 ≤ w.length) ∧ ∀ H', Same H H' → Q (.str (lend ss r)) H'
def spIsGood (K : PySem.W.Frag) : Sp := fun vs H Q _ => ∃ (r : Str) (a : Addr) (ws : List Str), vs = [.str r, .ref a] ∧ SqL K H a (ws.map V.str) ∧ ws.length ≤ 1000 ∧ ∀ H', Same H H' → Q (.bl (!(ws.any fun w => Txt.endswith r w))) H'
def spEnd5 (K : PySem.W.Frag) : Sp := fun vs H Q _ => ∃ (r : Str) (a : Addr) (ws ss : List Str), vs = [.str r, .ref a] ∧ SqL K H a (ws.map V.str) ∧ ss.Perm (keysS ws "" ws) ∧ (∀ w ∈ ws, w.length ≤ 5) ∧ bears ws r = false ∧ r.length ≤ 1000 ∧ Q (.str (lend ss r)) H
def spRow5 (K : PySem.W.Frag) : Sp := fun vs H Q _ => ∃ (a b : Addr) (ns : List Int) (g : Str) (ws : List Str), vs = [.ref a, .str g, .ref b] ∧ SqL K H a (ns.map V.int) ∧ SqL K H b (ws.map V.str) ∧ Signs g ∧ ws.length ≤ 6 ∧ (∀ w ∈ ws, Word g w) ∧
  ∀ (r : Str) (H' : Hp), Same H H' → bears ws r = false → (∀ c ∈ ch r, c ∈ ch g) → r.length ≤ 102 → Q (.str r) H'
def gEnds (r : Str) : V → V := fun v => match v with
  | .str w => .bl (Txt.endswith r w)
  | _ => .non
end
end Sx

set_option Elab.async false
set_option linter.all false
set_option maxRecDepth 100000
set_option maxHeartbeats 4000000
namespace L2
open PySem PySem.Spec PyProof.Rows
section
variable {X : Cx}
/-- == of two tuples of flat things -/
def rEqTup (K : PySem.W.Frag) : R2 := fun x y H Q => ∃ a b xs ys, x = .ref a ∧ y = .ref b ∧ SqT K H a xs ∧ SqT K H b ys ∧ xs.length = ys.length ∧ xs.all flatV = true ∧ ys.all flatV = true ∧ Q (.bl (eqVs xs ys)) H
end
end L2
namespace Bs
open PySem
/-- the first sign that is none of the band's -/
structure Out (g r : Str) (i : Nat) : Prop where
  at_ : ∃ c, (ch r)[i]? = some c ∧ c ∉ ch g
  lo : ∀ j c, j < i → (ch r)[j]? = some c → c ∈ ch g
def Ins (g r : Str) : Prop := ∀ c ∈ ch r, c ∈ ch g
structure Bad (ws : List Str) (r : Str) (n : Nat) : Prop where
  lt : n < r.length
  good : bears ws (takeS r n) = false
  bad : bears ws (takeS r (n + 1)) = true
theorem Out.lt {g r : Str} {i : Nat} (o : Out g r i) : i < r.length := by
  obtain ⟨c, h, _⟩ := o.at_
  rw [← len_ch]
  exact (List.getElem?_eq_some_iff.mp h).1
theorem Out.one {g r : Str} {i j : Nat} (o : Out g r i) (p : Out g r j) : i = j := by
  rcases Nat.lt_trichotomy i j with h | h | h
  · obtain ⟨c, hc, hn⟩ := o.at_
    exact absurd (p.lo i c h hc) hn
  · exact h
  · obtain ⟨c, hc, hn⟩ := p.at_
    exact absurd (o.lo j c h hc) hn
theorem Out.no {g r : Str} {i : Nat} (o : Out g r i) (h : Ins g r) : False := by
  obtain ⟨c, hc, hn⟩ := o.at_
  exact hn (h c (List.mem_of_getElem? hc))
theorem take_mono {ws : List Str} {r : Str} {i j : Nat} (h : i ≤ j) (hg : bears ws (takeS r j) = false) : bears ws (takeS r i) = false := by
  refine bears_pre ?_ hg
  rw [ch_take, ch_take]
  exact (List.take_prefix_take_left h).isInfix
theorem Bad.one {ws : List Str} {r : Str} {n m : Nat} (a : Bad ws r n) (b : Bad ws r m) : n = m := by
  rcases Nat.lt_trichotomy n m with h | h | h
  · have := take_mono (j := m) (i := n + 1) h b.good
    rw [a.bad] at this; cases this
  · exact h
  · have := take_mono (j := n) (i := m + 1) h a.good
    rw [b.bad] at this; cases this
/-- a row that isn't good has a shortest beginning that isn't -/
theorem Bad.ex {ws : List Str} {r : Str} (hw : ∀ w ∈ ws, 1 ≤ w.length) (h : bears ws r = true) : ∃ n, Bad ws r n := by
  have key : ∀ m, m ≤ r.length → bears ws (takeS r m) = true → ∃ n, Bad ws r n := by
    intro m
    induction m with
    | zero => intro _ q; rw [take_zero, bears_nil hw] at q; cases q
    | succ m ih =>
      intro hm q
      cases e : bears ws (takeS r m) with
      | true => exact ih (by omega) e
      | false => exact ⟨m, by omega, e, q⟩
  exact key r.length (Nat.le_refl _) (by rw [take_all]; exact h)
/-- what is asked and answered -/
inductive Ask (g : Str) (ws ss : List Str) (r : Str) : Int → Int → L2.V → Prop where
  | out {i : Nat} {way : Int} (h : Out g r i) : Ask g ws ss r way 1 (.int (i : Nat))
  | good0 (h : Ins g r) : Ask g ws ss r 0 0 (.bl (!bears ws r))
  | good1 (h : Ins g r) (hb : bears ws r = false) : Ask g ws ss r 1 0 (.str (lend ss r))
  | bad {n : Nat} (h : Ins g r) (hb : Bad ws r n) : Ask g ws ss r 1 2 (.int ((n : Nat) + 1))
end Bs
namespace Sx
open PySem L2 Bs
/-- an error with one field -/
def NoX (CN : Addr) (nm : Str) (v : V) (H : Hp) (E : XK) : Prop := ∀ (d : Addr) (H' : Hp), Same H H' → H d = none → H' d = some (.xd [(nm, v)]) → E (.ref CN) (some d) H'
theorem none_of {H H' : Hp} {d : Addr} (s : Same H H') (h : H' d = none) : H d = none := by
  cases q : H d with
  | none => rfl
  | some o => rw [s _ _ q] at h; cases h
theorem NoX.same {CN : Addr} {nm : Str} {v : V} {H H' : Hp} {E : XK} (n : NoX CN nm v H E) (s : Same H H') : NoX CN nm v H' E := fun d H2 s2 h1 h2 => n d H2 (s.trans s2) (none_of s h1) h2
def okNum (v : V) : Prop := ∃ i : Int, v = .int i ∧ i.natAbs ≤ 1000
/-- a band made anew: what it needs lies at new addresses -/
def spInitF (K : PySem.W.Frag) (C : Addr) : Sp := fun vs H Q _ => ∃ (x dx : Addr) (g : Str) (a : Addr) (ws : List Str), vs = [.ref x, .str g, .ref a] ∧ H x = some (.ins C dx []) ∧ SqL K H a (ws.map V.str) ∧ Signs g ∧ ws.length ≤ 6 ∧ (∀ w ∈ ws, Word g w) ∧
  ∀ (ss ls : List Str) (H' : Hp), (∀ H'' : Hp, (∀ c o, H' c = some o → (H c = none ∨ c = x) → H'' c = some o) → BandAt C H'' x g ws ss ls) → (∀ b o, H b = some o → b ≠ x → H' b = some o) → Q .non H'
def spCheckRowE (C CN : Addr) : Sp := fun vs H Q E => ∃ (x : Addr) (r g : Str) (ws ss ls : List Str), vs = [.ref x, .str r] ∧ BandAt C H x g ws ss ls ∧ r.length ≤ 1000 ∧ ((Ins g r ∧ ∀ H', Same H H' → Q .non H') ∨ (∃ i, Out g r i ∧ NoX CN "number" (.int (i : Nat)) H E))
def spIsGoodE (C CN : Addr) : Sp := fun vs H Q E => ∃ (x : Addr) (r g : Str) (ws ss ls : List Str), vs = [.ref x, .str r] ∧ BandAt C H x g ws ss ls ∧ r.length ≤ 1000 ∧ ws.length ≤ 6 ∧ ((Ins g r ∧ ∀ H', Same H H' → Q (.bl (!bears ws r)) H') ∨ (∃ i, Out g r i ∧ NoX CN "number" (.int (i : Nat)) H E))
def spPlaceE (C CN CB : Addr) : Sp := fun vs H Q E => ∃ (x : Addr) (r g : Str) (ws ss ls : List Str), vs = [.ref x, .str r] ∧ BandAt C H x g ws ss ls ∧ r.length ≤ 1000 ∧ (∀ w ∈ ws, 1 ≤ w.length) ∧
  ((Ins g r ∧ bears ws r = false ∧ ∀ H', Same H H' → Q (.str (lend ss r)) H') ∨ (∃ n, Ins g r ∧ Bad ws r n ∧ NoX CB "length" (.int ((n : Nat) + 1)) H E) ∨ (∃ i, Out g r i ∧ NoX CN "number" (.int (i : Nat)) H E))
def spBadAt (K : PySem.W.Frag) : Sp := fun vs H Q _ => ∃ (r : Str) (a : Addr) (ws : List Str), vs = [.str r, .ref a] ∧ SqL K H a (ws.map V.str) ∧ ws.length ≤ 1000 ∧ r.length ≤ 1000 ∧ (∀ w ∈ ws, 1 ≤ w.length) ∧
  (bears ws r = false → Q .non H) ∧ (∀ n, Bad ws r n → Q (.int ((n : Nat) + 1)) H)
def spAsk (C : Addr) : Sp := fun vs H Q _ => ∃ (x : Addr) (r g : Str) (way : Int) (ws ss ls : List Str), vs = [.ref x, .str r, .int way] ∧ BandAt C H x g ws ss ls ∧ r.length ≤ 1000 ∧ ws.length ≤ 6 ∧ (∀ w ∈ ws, 1 ≤ w.length) ∧ (way = 0 ∨ way = 1) ∧ (Ins g r ∨ ∃ i, Out g r i) ∧
  ∀ (a : Int) (b : V) (p : Addr) (H' : Hp), Ask g ws ss r way a b → Same H H' → H' p = some (.tup [.int a, b]) → Q (.ref p) H'
def spRight (K : PySem.W.Frag) (C : Addr) : Sp := fun vs H Q _ => ∃ (x lw : Addr) (r g : Str) (o : V) (ws ss ls : List Str), vs = [.ref x, .str r, .ref lw, o] ∧ BandAt C H x g ws ss ls ∧ SqL K H lw (ws.map V.str) ∧ r.length ≤ 1000 ∧ ws.length ≤ 6 ∧ (∀ w ∈ ws, 1 ≤ w.length) ∧
  ((o = .non ∧ Ins g r) ∨ (∃ i : Nat, o = .int (i : Nat) ∧ Out g r i)) ∧ ∀ H', Same H H' → Q (.bl true) H'
def spRow2 (K : PySem.W.Frag) : Sp := fun vs H Q _ => ∃ (a : Addr) (ns : List Int) (g : Str), vs = [.ref a, .str g] ∧ SqL K H a (ns.map V.int) ∧ ns.length ≤ 63 ∧ Signs g ∧ ∀ (r : Str) (H' : Hp), Ins g r → r.length ≤ 200 → Same H H' → Q (.str r) H'
end Sx
namespace Bs
open PySem
end Bs
namespace Sx
open PySem L2 Bs
end Sx
namespace L2
open PySem
end L2

set_option Elab.async false
set_option linter.all false
set_option maxRecDepth 100000
set_option maxHeartbeats 4000000
namespace L2
open PySem PySem.Spec PyProof.Rows
section
variable {X : Cx}
theorem ints_items : ∀ {ns : List Int} {its : List Value}, Vals (ns.map V.int) its → ∃ xs : List (Int × Tok), its = xs.map (fun p => Value.int p.1 p.2) ∧ xs.map (·.1) = ns
  | [], its, r => by cases r; exact ⟨[], rfl, rfl⟩
  | n :: ns, its, r => by
    cases r with
    | cons h t =>
      obtain ⟨tk, rfl⟩ := h
      obtain ⟨xs, rfl, e⟩ := ints_items t
      exact ⟨(n, tk) :: xs, rfl, by rw [List.map_cons, e]⟩
/-- sum of a list of ints -/
theorem call_sum (hc : X.calm = true) : CallR X (.builtin "sum") (fun xs H Q => ∃ p ns, xs = [.ref p] ∧ SqL X.K H p (List.map V.int ns) ∧ Q (.int ns.sum) H) := by
  intro pins s σ H xs us Q I r h
  obtain ⟨p, ns, rfl, hq, q⟩ := h
  obtain ⟨u, rfl, rx⟩ := vals1 r
  cases rx
  obtain ⟨its, rv, pl, hz⟩ := I.list hq
  obtain ⟨ys, e, rfl⟩ := ints_items rv
  have hl : s.heap.IsList p (intItems ys.toArray) := by
    have : intItems ys.toArray = its.toArray := by rw [e]; unfold intItems; simp
    rw [this]
    exact pl.isList
  refine sum_intListG (I.ok.hd hc) hl fun h' tk t' hk => ?_
  refine ⟨.int _, H, I.kept hk, ⟨t', ?_⟩, q⟩
  rw [preSum_eq, List.take_of_length_le (by simp)]
end
end L2
/-! ### a loop over a dict: it is frozen -/
namespace L2
open PySem PySem.Spec PyProof.Rows
def Itd (d : Addr) (o : Obj) (kvs : List (Key × V)) : It := ⟨fun i H => H d = some (.frz o (.dK kvs)) ∧ i < kvs.length, fun i H x H' => H' = H ∧ ∃ kv, kvs[i]? = some kv ∧ x = kV kv.1, fun i H => H d = some (.frz o (.dK kvs)) ∧ kvs.length ≤ i⟩
section
variable {X : Cx} {tg : Expr}
def iDict (tl : TE) : TI := fun σ H R => tl σ H fun x H1 => ∃ d kvs, x = .ref d ∧ ((H1 d = some (.dK kvs) ∧ ∀ o, R (Itd d o kvs) (upd H1 d (.frz o (.dK kvs)))) ∨ ∃ o, H1 d = some (.frz o (.dK kvs)) ∧ R (Itd d o kvs) H1)
end
end L2

set_option Elab.async false
set_option linter.all false
set_option maxRecDepth 100000
set_option maxHeartbeats 4000000
namespace L2
open PySem Bs
theorem DGet.f {H : Hp} {a : Addr} {o : Obj} {kvs : List (Key × V)} {k : Key} (e : H a = some (.frz o (.dK kvs))) : DGet H a (kV k) (valV kvs k) := .inl ⟨kvs, k, .inr ⟨o, e⟩, rfl, rfl⟩
/-- the places to which signs lead -/
def endsOf (g : Str) (ws ss : List Str) (p : Str) : List Str := (ch g).filterMap fun c => if bears ws (p ++ ⟨#[c]⟩) = true then none else some (lend ss (p ++ ⟨#[c]⟩))
def notNon (v : V) : Bool := !decide (v = .non)
/-- how many good rows go on -/
def cntF (g : Str) (ws ss : List Str) : Nat → Str → Int
  | 0, _ => 1
  | n + 1, p => ((endsOf g ws ss p).map (cntF g ws ss n)).sum
/-- a dict from texts -/
def fRow (f : Str → V) (ks : List Str) : List (Key × V) := ks.map fun p => ((Sum.inr p : Key), f p)
abbrev cRow (g : Str) (ws ss : List Str) (n : Nat) : List (Key × V) := fRow (fun p => .int (cntF g ws ss n p)) ss
def gMv (ws ss : List Str) (p : Str) : V → V := fun v => match v with
  | .str z => mvV ws ss p (z.cps.getD 0 0)
  | _ => .non
def gCnt (f : Str → Int) : V → V := fun v => match v with
  | .str z => .int (f z)
  | _ => .non
end L2
namespace Sx
open PySem L2 Bs
def spEndsFrom (C : Addr) : Sp := fun vs H Q _ => ∃ (x : Addr) (p g : Str) (ws ss ls : List Str), vs = [.ref x, .str p] ∧ BandAt C H x g ws ss ls ∧ p ∈ ss ∧ g.length ≤ 10 ∧
  ∀ (l : Addr) (H' : Hp), Same H H' → H l = none → H' l = some (.lst ((endsOf g ws ss p).map V.str)) → Q (.ref l) H'
def spAllEnds (C : Addr) : Sp := fun vs H Q _ => ∃ (x : Addr) (g : Str) (ws ss ls : List Str), vs = [.ref x] ∧ BandAt C H x g ws ss ls ∧ g.length ≤ 10 ∧ ss.length ≤ 900 ∧
  ∀ (d : Addr) (ev : List (Str × Addr)) (H' : Hp), Same H H' → H d = none → H' d = some (.dK (dRows ev)) → ev.map (·.1) = ss → (∀ m ∈ ev, H' m.2 = some (.lst ((endsOf g ws ss m.1).map V.str))) → (∀ m ∈ ev, H m.2 = none) → Q (.ref d) H'
def spTable (C : Addr) : Sp := fun vs H Q _ => ∃ (x : Addr) (n : Int) (g : Str) (ws ss ls : List Str), vs = [.ref x, .int n] ∧ BandAt C H x g ws ss ls ∧ g.length ≤ 10 ∧ ss.length ≤ 900 ∧ 0 ≤ n ∧ n ≤ 100000 ∧
  ∀ (l : Addr) (ts : List Addr) (H' : Hp), Same H H' → H l = none → H' l = some (.lst (ts.map V.ref)) → ts.length = n.toNat + 1 → (∀ i t, ts[i]? = some t → H' t = some (.dK (cRow g ws ss i))) → Q (.ref l) H'
def spCountE (C CN : Addr) : Sp := fun vs H Q E => ∃ (x : Addr) (v : V) (n : Int) (g : Str) (ws ss ls : List Str), vs = [.ref x, v, .int n] ∧ BandAt C H x g ws ss ls ∧ g.length ≤ 10 ∧ ss.length ≤ 900 ∧ 0 ≤ n ∧ n ≤ 100000 ∧ Thing H v ∧
  ((∃ p, v = .str p ∧ p ∈ ss ∧ ∀ H', Same H H' → Q (.int (cntF g ws ss n.toNat p)) H') ∨ ((∀ p ∈ ss, v ≠ .str p) ∧ NoPl CN v H E))
def spCount (C : Addr) : Sp := fun vs H Q _ => ∃ (x : Addr) (n : Int) (g : Str) (ws ss ls : List Str), vs = [.ref x, .int n] ∧ BandAt C H x g ws ss ls ∧ g.length ≤ 10 ∧ ss.length ≤ 900 ∧ 0 ≤ n ∧ n ≤ 100000 ∧
  ∀ H', Same H H' → Q (.int (cntF g ws ss n.toNat "")) H'
end Sx
namespace L2
open PySem PySem.Spec PyProof.Rows
section
variable {X : Cx}
/-- x *= y -/
def ipM : TIp := fun x y H Q => ∃ i j, x = .int i ∧ y = .int j ∧ CMul i j ∧ Q (.int (i * j)) H
end
end L2
namespace Sx
open PySem L2 Bs
def spWhole0 : Sp := fun vs H Q _ => ∃ i : Int, vs = [.int i] ∧ Q (.bl true) H
def spAllRows (C : Addr) : Sp := fun vs H Q _ => ∃ (x : Addr) (n : Int) (g : Str) (ws ss ls : List Str), vs = [.ref x, .int n] ∧ BandAt C H x g ws ss ls ∧ g.length ≤ 10 ∧ 0 ≤ n ∧ n ≤ 10 ∧ Q (.int ((g.length : Int) ^ n.toNat)) H
/-- a rate of a band with so many signs -/
structure IsRate (m : Nat) (many wide : Int) : Prop where
  a : 2 ≤ many
  b : many ≤ 8
  c : 1 ≤ wide
  d : wide ≤ 6
  e : (m : Int) ^ wide.toNat ≤ 64
def spIsRate (C : Addr) : Sp := fun vs H Q _ => ∃ (x : Addr) (many wide : Int) (g : Str) (ws ss ls : List Str), vs = [.ref x, .int many, .int wide] ∧ BandAt C H x g ws ss ls ∧ g.length ≤ 10 ∧ IsRate g.length many wide ∧ Q (.bl true) H
def spScarce (C : Addr) : Sp := fun vs H Q _ => ∃ (x : Addr) (many wide most : Int) (g : Str) (ws ss ls : List Str), vs = [.ref x, .int many, .int wide, .int most] ∧ BandAt C H x g ws ss ls ∧ g.length ≤ 10 ∧ ss.length ≤ 900 ∧ IsRate g.length many wide ∧ 0 ≤ most ∧ most ≤ 100 ∧
  (∀ k : Nat, 1 ≤ k → (k : Int) ≤ most → cntF g ws ss (k * wide.toNat) "" < many ^ k → (∀ j : Nat, 1 ≤ j → j < k → ¬ cntF g ws ss (j * wide.toNat) "" < many ^ j) → ∀ H', Same H H' → Q (.int (k : Nat)) H') ∧
  ((∀ j : Nat, 1 ≤ j → (j : Int) ≤ most → ¬ cntF g ws ss (j * wide.toNat) "" < many ^ j) → ∀ H', Same H H' → Q .non H')
end Sx

set_option Elab.async false
set_option linter.all false
set_option maxRecDepth 100000
set_option maxHeartbeats 4000000
namespace L2
open PySem PySem.Spec PyProof.Rows
theorem bAbs : bootBuiltins "abs" = some (.builtin "abs") := by decide +kernel
theorem cut_ints (ns : List Int) (lo hi : Option Int) : ∃ ms : List Int, cutV (ns.map V.int) lo hi = ms.map V.int ∧ ms.length ≤ ns.length := by
  refine ⟨_, by unfold cutV; rw [← List.map_drop, ← List.map_take], ?_⟩
  rw [List.length_take, List.length_drop]
  omega
section
variable {X : Cx}
/-- two lists are unlike -/
def rNeL (K : PySem.W.Frag) : R2 := fun x y H Q => ∃ a b xs ys, x = .ref a ∧ y = .ref b ∧ SqL K H a xs ∧ SqL K H b ys ∧ xs.all flatV = true ∧ ys.all flatV = true ∧ Q (.bl (!eqVs xs ys)) H
theorem op_neL (hu : X.A.units < cLine) : OpR X (compareOp .NotEq) (rNeL X.K) := by
  intro pins s σ H x y v u Q I rx ry h
  obtain ⟨a, b, xs, ys, rfl, rfl, ha, hb, fx, fy, q⟩ := h
  cases rx
  cases ry
  obtain ⟨its, r1, p1, _⟩ := I.list ha
  obtain ⟨its2, r2, p2, _⟩ := I.list hb
  have e1 := r1.length
  have e2 := r2.length
  by_cases hl : xs.length = ys.length
  · refine SeqAt.RcNeAt.lists (e := fun j => eqV (xs.getD j .non) (ys.getD j .non)) p1.isList p2.isList (by simp only [List.size_toArray]; omega) hu (fun j h1 h2 => ?_) X.prog X.w _ _ ?_
    · have h1' : j < its.length := by simpa using h1
      have h2' : j < its2.length := by simpa using h2
      have hx : xs[j]? = some (xs.getD j .non) := by rw [List.getD_eq_getElem?_getD]; simp [show j < xs.length by omega]
      have hy : ys[j]? = some (ys.getD j .non) := by rw [List.getD_eq_getElem?_getD]; simp [show j < ys.length by omega]
      obtain ⟨u1, q1, w1⟩ := r1.get hx
      obtain ⟨u2, q2, w2⟩ := r2.get hy
      have g1 : its.toArray[j] = u1 := by
        have : its[j]? = some its[j] := by simp [h1']
        rw [this] at q1
        simpa using Option.some.inj q1
      have g2 : its2.toArray[j] = u2 := by
        have : its2[j]? = some its2[j] := by simp [h2']
        rw [this] at q2
        simpa using Option.some.inj q2
      rw [g1, g2]
      exact eqAt_V w1 w2 (List.all_eq_true.mp fx _ (List.mem_of_getElem? hx)) (List.all_eq_true.mp fy _ (List.mem_of_getElem? hy))
    · rw [eqVs_range hl] at q
      refine ⟨.bl _, H, I, rfl, ?_⟩
      rw [List.size_toArray, ← e1]
      exact q
  · refine SeqAt.RcNeAt.lists_lengths p1.isList p2.isList (by simp only [List.size_toArray, bne_iff_ne]; omega) hu X.prog X.w _ _ ⟨.bl true, H, I, rfl, ?_⟩
    rw [eqVs_len hl] at q
    exact q
end
end L2
namespace Bs
open PySem L2
/-- letters of the pool, from one on, in steps -/
def ltsOf (st sp n : Nat) : List Nat := (List.range n).map fun k => (ch poolS).getD ((st + k * sp) % 36) 0
theorem ones_sum {P : Nat → Prop} : ∀ {ts : List Str}, (∀ t ∈ ts, ∃ c, t = ⟨#[c]⟩ ∧ P c) → (ts.map (·.length)).sum = ts.length
  | [], _ => rfl
  | t :: ts, h => by
    obtain ⟨c, rfl, _⟩ := h t (List.mem_cons_self ..)
    rw [List.map_cons, List.sum_cons, ones_sum fun t h' => h t (List.mem_cons_of_mem _ h'), List.length_cons]
    show 1 + ts.length = _
    omega
def gLet (st sp : Nat) : V → V := fun v => match v with
  | .int k => .str ⟨#[(ch poolS).getD ((st + k.toNat * sp) % 36) 0]⟩
  | _ => .non
end Bs
namespace Sx
open PySem L2 Bs
def spNth (K : PySem.W.Frag) : Sp := fun vs H Q _ => ∃ (a : Addr) (ns : List Int) (p : Int), vs = [.ref a, .int p] ∧ SqL K H a (ns.map V.int) ∧ ∀ (c : Int) (H' : Hp), Same H H' → Q (.int c) H'
/-- words of at most so many signs -/
def spWordsM (K : PySem.W.Frag) : Sp := fun vs H Q _ => ∃ (a : Addr) (ns : List Int) (p : Int) (g : Str) (m n : Int), vs = [.ref a, .int p, .str g, .int m, .int n] ∧ SqL K H a (ns.map V.int) ∧ 0 ≤ m ∧ m ≤ 100 ∧ 1 ≤ n ∧ n ≤ 5 ∧ 1 ≤ g.length ∧ g.length ≤ 4 ∧
  ∀ (l : Addr) (ws : List Str) (H' : Hp), Same H H' → H l = none → H' l = some (.lst (ws.map V.str)) → ws.length ≤ 4 → (∀ w ∈ ws, Word g w ∧ (w.length : Int) ≤ n) → Q (.ref l) H'
def spRate : Sp := fun vs H Q _ => ∃ (c : Int) (g : Str), vs = [.int c, .str g] ∧ 2 ≤ g.length ∧ g.length ≤ 4 ∧
  ∀ (p : Addr) (many wide : Int) (H' : Hp), Same H H' → H p = none → H' p = some (.tup [.int many, .int wide]) → IsRate g.length many wide → Q (.ref p) H'
end Sx

set_option Elab.async false
set_option linter.all false
set_option maxRecDepth 100000
set_option maxHeartbeats 4000000
namespace Bs
def lastN (k : Nat) (l : List Nat) : List Nat := l.drop (l.length - k)
theorem lastN_suf (k : Nat) (l : List Nat) : lastN k l <:+ l := List.drop_suffix _ _
theorem lastN_len (k : Nat) (l : List Nat) : (lastN k l).length ≤ k := by unfold lastN; rw [List.length_drop]; omega
theorem nodup_le {α : Type} [DecidableEq α] : ∀ {ks l : List α}, ks.Nodup → (∀ k ∈ ks, k ∈ l) → ks.length ≤ l.length
  | [], l, _, _ => Nat.zero_le _
  | k :: ks, l, nd, h => by
    rw [List.nodup_cons] at nd
    have hk := h k (List.mem_cons_self ..)
    have := nodup_le (l := l.erase k) nd.2 fun j hj => (List.mem_erase_of_ne (fun z => nd.1 (by rw [← z]; exact hj))).mpr (h j (List.mem_cons_of_mem _ hj))
    rw [List.length_erase_of_mem hk] at this
    have : 0 < l.length := List.length_pos_of_mem hk
    rw [List.length_cons]
    omega
def textsL (cs : List Nat) : Nat → List (List Nat)
  | 0 => [[]]
  | n + 1 => [] :: cs.flatMap fun c => (textsL cs n).map (c :: ·)
theorem mem_texts (cs : List Nat) : ∀ (n : Nat) (l : List Nat), l.length ≤ n → (∀ c ∈ l, c ∈ cs) → l ∈ textsL cs n
  | 0, l, h, _ => by
    rw [List.eq_nil_of_length_eq_zero (Nat.le_zero.mp h)]
    exact List.mem_singleton.mpr rfl
  | n + 1, [], _, _ => List.mem_cons_self ..
  | n + 1, c :: l, h, hc => by
    refine List.mem_cons_of_mem _ (List.mem_flatMap.mpr ⟨c, hc c (List.mem_cons_self ..), List.mem_map.mpr ⟨l, ?_, rfl⟩⟩)
    exact mem_texts cs n l (by rw [List.length_cons] at h; omega) fun d hd => hc d (List.mem_cons_of_mem _ hd)
theorem flat_len {α β : Type} (f : α → List β) (b : Nat) : ∀ (cs : List α), (∀ c ∈ cs, (f c).length ≤ b) → (cs.flatMap f).length ≤ cs.length * b
  | [], _ => Nat.zero_le _
  | c :: cs, h => by
    rw [List.flatMap_cons, List.length_append, List.length_cons, Nat.succ_mul]
    have := flat_len f b cs fun d hd => h d (List.mem_cons_of_mem _ hd)
    have := h c (List.mem_cons_self ..)
    omega
theorem texts_len (cs : List Nat) (h : cs.length ≤ 4) : ∀ n b b', (textsL cs n).length ≤ b → b' = 1 + 4 * b → (textsL cs (n + 1)).length ≤ b' := by
  intro n b b' hb hb'
  unfold textsL
  rw [List.length_cons]
  have h1 := flat_len (fun c => (textsL cs n).map (c :: ·)) b cs fun c _ => by rw [List.length_map]; exact hb
  have h2 : cs.length * b ≤ 4 * b := Nat.mul_le_mul_right _ h
  omega
theorem texts4 (cs : List Nat) (h : cs.length ≤ 4) : (textsL cs 4).length ≤ 341 :=
  texts_len cs h 3 85 _ (texts_len cs h 2 21 _ (texts_len cs h 1 5 _ (texts_len cs h 0 1 _ (Nat.le_refl 1) rfl) rfl) rfl) rfl
section
variable {κ : Type} [DecidableEq κ]
def bump : List (κ × Int) → κ → Int → List (κ × Int)
  | [], k, v => [(k, v)]
  | (j, u) :: m, k, v => if j = k then (j, u + v) :: m else (j, u) :: bump m k v
def wsum (F : κ → Int) (m : List (κ × Int)) : Int := (m.map fun p => p.2 * F p.1).sum
theorem bump_keys (k : κ) (v : Int) : ∀ m : List (κ × Int), (bump m k v).map (·.1) = if k ∈ m.map (·.1) then m.map (·.1) else m.map (·.1) ++ [k]
  | [] => rfl
  | (j, u) :: m => by
    unfold bump
    by_cases h : j = k
    · rw [if_pos h, if_pos (by rw [List.map_cons, h]; exact List.mem_cons_self ..)]
      rfl
    · rw [if_neg h, List.map_cons, bump_keys k v m, List.map_cons]
      by_cases hk : k ∈ m.map (·.1)
      · rw [if_pos hk, if_pos (List.mem_cons_of_mem _ hk)]
      · rw [if_neg hk, if_neg]
        · rfl
        · intro z
          rcases List.mem_cons.mp z with z | z
          · exact h z.symm
          · exact hk z
end
end Bs

namespace Bs
open PySem L2 AC
variable {ws ss : List Str}
def keyC (L : Nat) (r : Str) : Str := dropS r (r.length - (L - 1))
theorem ch_keyC (L : Nat) (r : Str) : ch (keyC L r) = lastN (L - 1) (ch r) := by unfold keyC lastN; rw [ch_drop, len_ch]
/-- one more row -/
def addC (ws : List Str) (L : Nat) (e : Str) (v : Int) (m : List (Str × Int)) (c : Nat) : List (Str × Int) := if bears ws (e ++ ⟨#[c]⟩) = true then m else bump m (keyC L (e ++ ⟨#[c]⟩)) v
def innC (g : Str) (ws : List Str) (L : Nat) (m : List (Str × Int)) (p : Str × Int) : List (Str × Int) := (ch g).foldl (addC ws L p.1 p.2) m
def stepC (g : Str) (ws : List Str) (L : Nat) (hs : List (Str × Int)) : List (Str × Int) := hs.foldl (innC g ws L) []
def hereC (g : Str) (ws : List Str) (L : Nat) : Nat → List (Str × Int)
  | 0 => [("", 1)]
  | n + 1 => stepC g ws L (hereC g ws L n)
def goC (ws : List Str) (L : Nat) (F : Str → Int) (e : Str) (c : Nat) : Int := if bears ws (e ++ ⟨#[c]⟩) = true then 0 else F (keyC L (e ++ ⟨#[c]⟩))
def LwF (g : Str) (ws : List Str) (L : Nat) : Nat → Str → Int
  | 0, _ => 1
  | n + 1, e => ((ch g).map (goC ws L (LwF g ws L n) e)).sum
/-- keys: each once, short, of the signs -/
structure KeysOk (g : Str) (L : Nat) (m : List (Str × Int)) : Prop where
  nd : (m.map (·.1)).Nodup
  sh : ∀ k ∈ m.map (·.1), (∀ c ∈ ch k, c ∈ ch g) ∧ k.length ≤ L - 1
theorem KeysOk.nil (g : Str) (L : Nat) : KeysOk g L [] := ⟨List.nodup_nil, fun k h => nomatch h⟩
theorem KeysOk.bump {g : Str} {L : Nat} {m : List (Str × Int)} (h : KeysOk g L m) {k : Str} {v : Int} (hk : (∀ c ∈ ch k, c ∈ ch g) ∧ k.length ≤ L - 1) : KeysOk g L (bump m k v) := by
  by_cases hm : k ∈ m.map (·.1)
  · exact ⟨by rw [bump_keys, if_pos hm]; exact h.nd, by rw [bump_keys, if_pos hm]; exact h.sh⟩
  · refine ⟨?_, ?_⟩
    · rw [bump_keys, if_neg hm]
      exact List.nodup_append.mpr ⟨h.nd, List.nodup_cons.mpr ⟨fun z => (nomatch z), List.nodup_nil⟩, fun a ha b hb z => hm (by rw [← List.mem_singleton.mp hb, ← z]; exact ha)⟩
    · rw [bump_keys, if_neg hm]
      intro j hj
      rcases List.mem_append.mp hj with z | z
      · exact h.sh j z
      · rw [List.mem_singleton.mp z]
        exact hk
theorem key_short {g : Str} {L : Nat} {e : Str} {c : Nat} (he : ∀ c ∈ ch e, c ∈ ch g) (hc : c ∈ ch g) : (∀ d ∈ ch (keyC L (e ++ ⟨#[c]⟩)), d ∈ ch g) ∧ (keyC L (e ++ ⟨#[c]⟩)).length ≤ L - 1 := by
  refine ⟨fun d hd => ?_, by rw [← len_ch, ch_keyC]; exact lastN_len _ _⟩
  rw [ch_keyC] at hd
  have := (lastN_suf _ _).subset hd
  rw [ch_append] at this
  rcases List.mem_append.mp this with z | z
  · exact he d z
  · rw [ch_one] at z
    rw [List.mem_singleton.mp z]
    exact hc
theorem KeysOk.add {g : Str} {L : Nat} {m : List (Str × Int)} (h : KeysOk g L m) {e : Str} {v : Int} {c : Nat} (he : ∀ c ∈ ch e, c ∈ ch g) (hc : c ∈ ch g) : KeysOk g L (addC ws L e v m c) := by
  unfold addC
  split
  · exact h
  · exact h.bump (key_short he hc)
theorem KeysOk.fold {g : Str} {L : Nat} {e : Str} {v : Int} (he : ∀ c ∈ ch e, c ∈ ch g) : ∀ {cs : List Nat} {m : List (Str × Int)}, KeysOk g L m → (∀ c ∈ cs, c ∈ ch g) → KeysOk g L (cs.foldl (addC ws L e v) m)
  | [], m, h, _ => h
  | c :: cs, m, h, hc => KeysOk.fold (cs := cs) he (h.add he (hc c (List.mem_cons_self ..))) fun d hd => hc d (List.mem_cons_of_mem _ hd)
theorem KeysOk.steps {g : Str} {L : Nat} : ∀ {hs m : List (Str × Int)}, KeysOk g L m → (∀ p ∈ hs, ∀ c ∈ ch p.1, c ∈ ch g) → KeysOk g L (hs.foldl (innC g ws L) m)
  | [], m, h, _ => h
  | p :: hs, m, h, hc => KeysOk.steps (hs := hs) (KeysOk.fold (hc p (List.mem_cons_self ..)) h fun c hc => hc) fun q hq => hc q (List.mem_cons_of_mem _ hq)
theorem KeysOk.here {g : Str} {L : Nat} : ∀ n, KeysOk g L (hereC g ws L n)
  | 0 => ⟨List.nodup_cons.mpr ⟨fun z => (nomatch z), List.nodup_nil⟩, fun k hk => by
      rw [List.mem_singleton.mp hk]
      exact ⟨fun c hc => (nomatch hc), Nat.zero_le _⟩⟩
  | n + 1 => KeysOk.steps (KeysOk.nil g L) fun p hp => ((KeysOk.here n).sh p.1 (List.mem_map.mpr ⟨p, hp, rfl⟩)).1
theorem KeysOk.len {g : Str} {L : Nat} {m : List (Str × Int)} (h : KeysOk g L m) (hg : g.length ≤ 4) (hL : L ≤ 5) : m.length ≤ 341 := by
  have h1 : ((m.map (·.1)).map ch).Nodup := by
    refine List.Pairwise.map _ ?_ h.nd
    intro a b hab z
    exact hab (ext_ch z)
  have h2 := nodup_le (l := textsL (ch g) 4) h1 fun k hk => by
    obtain ⟨x, hx, rfl⟩ := List.mem_map.mp hk
    obtain ⟨a, b⟩ := h.sh x hx
    exact mem_texts _ _ _ (by rw [len_ch]; omega) a
  have h3 := texts4 (ch g) (by rw [len_ch]; exact hg)
  rw [List.length_map, List.length_map] at h2
  omega
/-- such a dict -/
def iRows (m : List (Str × Int)) : List (Key × V) := m.map fun p => ((Sum.inr p.1 : Key), V.int p.2)
def lookI : List (Str × Int) → Str → Option Int
  | [], _ => none
  | (j, u) :: m, k => if j = k then some u else lookI m k
def gPair (m : List (Str × Int)) : V → V := fun v => match v with
  | .str k => .int ((lookI m k).getD 0)
  | _ => .non
end Bs
namespace L2
open PySem
end L2
namespace Sx
open PySem L2 Bs
def spCounted : Sp := fun vs H Q _ => ∃ (g : Str) (lw : Addr) (ws ss : List Str) (L n : Nat), vs = [.str g, .ref lw, .int (L : Int), .int (n : Int)] ∧ H lw = some (.lst (ws.map V.str)) ∧ g.length ≤ 4 ∧ 1 ≤ L ∧ L ≤ 5 ∧ n ≤ 1000 ∧ ws.length ≤ 6 ∧ (∀ w ∈ ws, 1 ≤ w.length) ∧ (∀ w ∈ ws, w.length ≤ L) ∧ ss.Perm (keysS ws "" ws) ∧
  ∀ (l : Addr) (H' : Hp), Same H H' → H l = none → H' l = some (.lst ((List.range (n + 1)).map fun i => V.int (cntF g ws ss i ""))) → Q (.ref l) H'
def spLeast (K : PySem.W.Frag) : Sp := fun vs H Q _ => ∃ (l : Addr) (f : Nat → Int) (many : Int) (w n : Nat), vs = [.ref l, .int many, .int (w : Int), .int (n : Int)] ∧ SqL K H l ((List.range (n * w + 1)).map fun i => V.int (f i)) ∧ 2 ≤ many ∧ many ≤ 8 ∧ n ≤ 100 ∧ w ≤ 6 ∧
  (∀ k : Nat, 1 ≤ k → k ≤ n → f (k * w) < many ^ k → (∀ j : Nat, 1 ≤ j → j < k → ¬ f (j * w) < many ^ j) → Q (.int (k : Nat)) H) ∧
  ((∀ j : Nat, 1 ≤ j → j ≤ n → ¬ f (j * w) < many ^ j) → Q .non H)
end Sx

set_option Elab.async false
set_option linter.all false
set_option maxRecDepth 100000
set_option maxHeartbeats 4000000
namespace L2
open PySem PySem.Spec PyProof.Rows
/-- a block of two names, turn by turn -/
def CompW2 (K : PySem.W.Frag) (J : It) (l : Addr) (σf : St) (tt : TT) (te : TE) (H : Hp) (Q : Hp → Prop) : Prop :=
  ∃ W : Nat → Nat → List V → Hp → Prop, (∃ m, W 0 m [] (upd H l (.lst []))) ∧ ∀ i m ys H2, W i m ys H2 → H2 l = some (.lst ys) ∧
    ((J.stop i H2 ∧ Q H2) ∨ (J.go i H2 ∧ ys.length < sizeLine ∧ ∀ x H3, J.yld i H2 x H3 → ∃ p a b, x = .ref p ∧ SqT K H3 p [a, b] ∧ tt (some a :: some b :: σf) H3 fun ok H4 =>
      if ok = true then te (some a :: some b :: σf) H4 fun y H5 => H5 l = some (.lst ys) ∧ ∃ m', m' < m ∧ W (i + 1) m' (ys ++ [y]) (upd H5 l (.lst (ys ++ [y])))
      else ∃ m', m' < m ∧ W (i + 1) m' ys H4))
def tComp2 (K : PySem.W.Frag) (wi : TI) (ix : List Nat) (tt : TT) (te : TE) : TE := fun σ H Q => wi σ H fun J H1 => ∀ l, H1 l = none → CompW2 K J l (pick σ ix) tt te H1 (fun H2 => Q (.ref l) H2)
section
variable {X : Cx} {pins : List (Addr × Obj)} {σ : St} {H : Hp} {s₂ : Shared} {scope : Scope} {x x2 : Str} {ys : List Str} {ix : List Nat} {cl : List (Str × Addr)} {fp : List Addr} {L : Addr}
theorem comp_ok2 (B : BlockOk X scope x ys ix) (B2 : BlockOk X scope x2 ys ix) (hne : x ≠ x2) (I : Inv X pins σ H s₂) (hf : ∀ b ∈ fp, FpOk X pins H b) (hfl : ∀ b ∈ fp, b < s₂.heap.objs.size) (hL : s₂.heap.objs.size ≤ L)
    (hcl : ∀ y c, cl.lookup y = some c → X.env.cells.lookup y = some c) (hcf : ∀ y ∈ scope.names, y.2 = .free → ∃ c, cl.lookup y.1 = some c) : (compCx X scope (x :: x2 :: ys) cl L s₂ H fp (X.pn ++ pins)).Ok where
  mod := I.ok.mod
  kind := B.kind
  glob := I.ok.glob
  blt := I.ok.blt
  above := hL
  inj := fun a b c h1 h2 => I.ok.inj a b c (hcl a c h1) (hcl b c h2)
  has := fun a ha => by
    obtain ⟨k, hm, hk⟩ := relabel_free (env := X.env) B.nocell (x := a) ha
    exact hcf (a, k) hm hk
  cab := fun _ _ h => nomatch h
  hd := I.ok.hd
  frames := I.ok.frames
  stk := .inl rfl
  exf := fun b hb => ⟨Nat.ne_of_lt (Nat.lt_of_lt_of_le (hfl b hb) hL), fun y c h => (hf b hb).2.2.2.2.1 y c (hcl y c h)⟩
  bs := I.bs
  bsz := Nat.le_trans I.ok.bsz I.sz
  noex := fun b o e hb => by
    rcases (hf b hb).2.2.2.1 with z | z
    · exact I.ok.noex b o e z
    · exact absurd (Nat.lt_of_lt_of_le (Nat.lt_of_lt_of_le (Heap.lt_size e) I.ok.bsz) z) (Nat.lt_irrefl _)
  exfs := fun b hb hm => by
    rcases List.mem_cons.mp (I.stkSub b hm) with z | z
    · exact (hf b hb).2.1 z
    · exact (hf b hb).2.2.1 z
  funs := I.stack
  frf := I.stkFree

theorem comp_inv2 {h₁ : Heap} {tk : Nat} {m₁ : Str → Option Value} {l : Addr} {n₀ : Nat} (B : BlockOk X scope x ys ix) (B2 : BlockOk X scope x2 ys ix) (hne : x ≠ x2) (I : Inv X pins σ H s₂) (hf : ∀ b ∈ fp, FpOk X pins H b) (hfl : ∀ b ∈ fp, b < s₂.heap.objs.size) (hL : s₂.heap.objs.size ≤ L)
    (hcl : ∀ y c, cl.lookup y = some c → X.env.cells.lookup y = some c) (hcf : ∀ y ∈ scope.names, y.2 = .free → ∃ c, cl.lookup y.1 = some c)
    (kp : ∀ b o, s₂.heap.get? b = some o → h₁.get? b = some o) (hns : h₁.Ns L m₁) (hl : l = s₂.heap.objs.size) (hlL : l ≠ L) (ho : h₁.get? l = some { cls := .type "list", data := .seq ([] : List Value).toArray n₀ }) :
    Inv (compCx X scope (x :: x2 :: ys) cl L s₂ H fp (X.pn ++ pins)) [] (none :: none :: pick σ ix) (upd H l (.lst [])) { s₂ with heap := h₁, toks := tk } := by
  subst hl
  have fr := I.hok.fresh (Nat.le_refl s₂.heap.objs.size)
  refine ⟨comp_ok2 B B2 hne I hf hfl hL hcl hcf, rfl, I.bare, Un.laid kp (Nat.le_refl _) fr, ⟨m₁, hns, fun i y v e1 e2 e3 => ?_⟩, fun y c e => ?_, ?_, fun y c e => ?_, fun p hp => ?_, I.hok.laid kp (Nat.le_refl _) ⟨Nat.zero_le _, [], n₀, .nil, ho⟩, ?_⟩
  · match i, e1, e2 with
    | 0, _, e2 => simp at e2
    | 1, _, e2 => simp at e2
    | j + 2, e1, e2 =>
      have e1' : ys[j]? = some y := by simpa [compCx] using e1
      obtain ⟨i, hi, hN, hk, hfree⟩ := B.slots j y e1'
      have e2' : (σ[i]?).join = some v := by
        have : (pick σ ix)[j]? = some (some v) := by simpa using e2
        unfold pick at this
        rw [List.getElem?_map, hi] at this
        exact Option.some.inj this
      have e2'' : σ[i]? = some (some v) := by
        cases q : σ[i]? with
        | none => rw [q] at e2'; cases e2'
        | some z => rw [q] at e2'; rw [show z = some v from e2']
      obtain ⟨m, hn, hlk⟩ := I.loc
      have vis : Vis X.env.scope y := .inr (hk.imp id id)
      obtain ⟨u, r, l⟩ := hlk i y v hN e2'' vis
      refine ⟨u, r, .inr ⟨relabel_lookup hfree, ?_⟩⟩
      rcases l with ⟨k, _⟩ | ⟨_, c, hc, hcell⟩
      · have k' : X.env.scope.names.lookup y = some .local := k
        rcases hk with z | z
        · rw [z] at k'; cases k'
        · rw [z] at k'; cases k'
      · obtain ⟨c', hc'⟩ := hcf (y, .free) (PySem.mem_of_lookup hfree) rfl
        have := hcl y c' hc'
        rw [hc] at this
        cases this
        obtain ⟨o, q, d⟩ := hcell
        exact ⟨c, hc', o, kp c o q, d⟩
  · obtain ⟨v, o, q, d⟩ := I.cell y c (hcl y c e)
    exact ⟨v, o, kp c o q, d⟩
  · show upd H s₂.heap.objs.size (.lst []) L = none
    rw [upd_ne (Ne.symm hlL)]
    exact I.hok.fresh hL
  · obtain ⟨v, o, q, d⟩ := I.cell y c (hcl y c e)
    rw [upd_ne (Nat.ne_of_lt (Heap.lt_size q))]
    exact I.freeC y c (hcl y c e)
  · rw [List.append_nil] at hp
    obtain ⟨q, n, ne, nf, d⟩ := I.pin p hp
    have lt := Heap.lt_size q
    refine ⟨kp _ _ q, by rw [upd_ne (Nat.ne_of_lt lt)]; exact n, Nat.ne_of_lt (Nat.lt_of_lt_of_le lt hL), fun hm => ?_, d⟩
    rcases List.mem_cons.mp (I.stkSub p.1 hm) with z | z
    · exact ne z
    · exact nf z
  · show _ = (x :: x2 :: ys).length
    unfold pick
    rw [List.length_cons, List.length_cons, List.length_map, B.len, List.length_cons, List.length_cons]

theorem comp_core2 {px px2 pt pos : Pos} {kt : Nat} {iter elt : Expr} {ifs : List Expr} {it : Addr} {tn : Nat → Heap → Prop} {J : It} {tt : TT} {te : TE} {Qd : Addr → Hp → Prop} {RR : Value → Addr → Result → Shared → Prop} {E : Value → Shared → Prop}
    (hc : X.calm = true) (B : BlockOk X scope x ys ix) (B2 : BlockOk X scope x2 ys ix) (hne : x ≠ x2) (I : Inv X pins σ H s₂) (T : Turn X.prog X.w X.K (.Tuple [.Name x px, .Name x2 px2] kt pt) J fp it tn) (st0 : tn 0 s₂.heap) (hf : ∀ b ∈ fp, FpOk X pins H b)
    (hcl : ∀ y c, cl.lookup y = some c → X.env.cells.lookup y = some c) (hcf : ∀ y ∈ scope.names, y.2 = .free → ∃ c, cl.lookup y.1 = some c)
    (ht : ∀ L s H ex pn, PTs (compCx X scope (x :: x2 :: ys) cl L s H ex pn) ifs tt) (he : ∀ L s H ex pn, PE (compCx X scope (x :: x2 :: ys) cl L s H ex pn) elt te)
    (hw : ∀ l, H l = none → CompW2 X.K J l (pick σ ix) tt te H (Qd l))
    (hRR : ∀ D L H' s' m, Inv X pins σ H' s' → s'.heap.Ns L m → H' L = none → L ≠ X.env.locals → X.s₀.heap.objs.size ≤ L → (∀ y c, X.env.cells.lookup y = some c → c ≠ L) → (∀ p ∈ X.pn ++ pins, p.1 ≠ L) → Qd D H' → RR (.ref D) L (.ok .next) s') :
    wpAny (model X.prog X.w) X.A (newList []) (fun acc s₃ => wpAny (model X.prog X.w) X.A (newFunctionEnv scope X.env.globals cl [] X.env.qual none .none (some X.env)) (fun cenv s₄ =>
      codeAny (model X.prog X.w) X.A (.compStart (.ListComp elt [⟨.Tuple [.Name x px, .Name x2 px2] kt pt, iter, ifs, 0⟩] scope pos) 0 (.ref it) acc { cenv with scope := relabel scope X.env }) (RR acc cenv.locals) s₄) E s₃) E s₂ := by
  refine wpAny_newObj_type (wpAny_newFunctionEnv B.nocell (by intro y hy; simp at hy) (fun h₁ hns₁ hsb₁ => ?_) B.kind)
  dsimp only at hns₁ hsb₁ ⊢
  generalize hH2 : s₂.heap.push { cls := .type "list", dict := none, data := .seq ([] : List Value).toArray } = H2 at hns₁ hsb₁ ⊢
  have hC : H2.objs.size = s₂.heap.objs.size + 1 := by rw [← hH2, Heap.size_push]
  have hDC : s₂.heap.objs.size ≠ H2.objs.size := by rw [hC]; exact Nat.ne_of_lt (Nat.lt_succ_self _)
  have hCle : s₂.heap.objs.size ≤ H2.objs.size := by rw [hC]; exact Nat.le_succ _
  have old : ∀ b o, s₂.heap.get? b = some o → h₁.get? b = some o := fun b o e => hsb₁.extBut b o (Nat.ne_of_lt (Nat.lt_of_lt_of_le (Heap.lt_size e) hCle)) (Heap.get?_push_of_some _ (hH2 ▸ Heap.get?_push_of_some _ e))
  have hacc : h₁.get? s₂.heap.objs.size = some { cls := .type "list", data := .seq ([] : List Value).toArray } := hsb₁.extBut _ _ hDC (Heap.get?_push_of_some _ (hH2 ▸ Heap.get?_push_size _ rfl))
  have hfl : ∀ b ∈ fp, b < s₂.heap.objs.size := fun b hb => let ⟨o, e, _⟩ := T.obj 0 _ st0 b hb; Heap.lt_size e
  have kpf : ∀ b ∈ fp, ∀ o, s₂.heap.get? b = some o → h₁.get? b = some o := fun b _ o e => old b o e
  have st1 : tn 0 h₁ := T.keep 0 _ _ st0 kpf
  obtain ⟨W, ⟨m0, w0⟩, turn⟩ := hw s₂.heap.objs.size (I.hok.fresh (Nat.le_refl _))
  have loop : ∀ s₃ : Shared, s₃ = { s₂ with heap := h₁, toks := s₂.toks + ([] : List (Str × Value)).length } →
      codeAny (model X.prog X.w) X.A (.compLoop (.ListComp elt [⟨.Tuple [.Name x px, .Name x2 px2] kt pt, iter, ifs, 0⟩] scope pos) 0 (.ref it) (.ref s₂.heap.objs.size) (compEnvC scope cl H2.objs.size X.env))
        (RR (.ref s₂.heap.objs.size) H2.objs.size) s₃ := by
    rintro s₃ rfl
    have I0 := comp_inv2 (tk := s₂.toks + ([] : List (Str × Value)).length) (n₀ := 0) (m₁ := _) (L := H2.objs.size) B B2 hne I hf hfl hCle hcl hcf old hns₁ rfl hDC hacc
    have hx : (relabel scope X.env).names.lookup x = some .local := lookup_relabel_local B.var
    have hx2 : (relabel scope X.env).names.lookup x2 = some .local := lookup_relabel_local B2.var
    have hnd : (x :: x2 :: ys).Nodup := List.nodup_cons.mpr ⟨fun z => by
      rcases List.mem_cons.mp z with z | z
      · exact hne z
      · exact (List.nodup_cons.mp B.nd).1 z, B2.nd⟩
    refine comp_loop (env := compEnvC scope cl H2.objs.size X.env)
      (fun n s' => ∃ i ys' v0 v1 H', Inv (compCx X scope (x :: x2 :: ys) cl H2.objs.size s₂ H fp (X.pn ++ pins)) [] (v0 :: v1 :: pick σ ix) H' s' ∧ tn i s'.heap ∧ (∀ b ∈ fp, H' b = none) ∧ W i n ys' H') ?_ m0
      ⟨0, [], none, none, _, I0, st1, fun b hb => by rw [upd_ne (Nat.ne_of_lt (hfl b hb))]; exact (hf b hb).1, w0⟩
    rintro n s3 ⟨i, ys', v0, v1, H3, I3, st3, fr3, w3⟩
    obtain ⟨hl3, alt⟩ := turn i n ys' H3 w3
    have stat : ∀ {H' : Hp}, (∀ b ∈ fp, H' b = none) → ∀ b ∈ fp, FpOk (compCx X scope (x :: x2 :: ys) cl H2.objs.size s₂ H fp (X.pn ++ pins)) [] H' b := fun hn b hb =>
      ⟨hn b hb, Nat.ne_of_lt (Nat.lt_of_lt_of_le (hfl b hb) hCle), fun hm => by
        rcases List.mem_cons.mp (I.stkSub b hm) with z | z
        · exact (hf b hb).2.1 z
        · exact (hf b hb).2.2.1 z, .inl hb, fun y c e => (hf b hb).2.2.2.2.1 y c (hcl y c e), fun p hp => (hf b hb).2.2.2.2.2 p (by simpa [compCx] using hp)⟩
    rcases alt with ⟨stop, qd⟩ | ⟨go, hsz, step⟩
    · refine thn (T.done (compCx X scope (x :: x2 :: ys) cl H2.objs.size s₂ H fp (X.pn ++ pins)) rfl rfl rfl hc i [] s3 _ H3 _ I3 (stat fr3) st3 stop) fun r s4 ⟨hr, I4⟩ => ?_
      subst hr
      obtain ⟨m, hn, _⟩ := I4.loc
      refine hRR s₂.heap.objs.size H2.objs.size H3 s4 m ?_ hn I4.free (Nat.ne_of_gt (Nat.lt_of_lt_of_le I.lt hCle)) (Nat.le_trans I.sz hCle) (fun y c e => ?_) (fun p hp => ?_) qd
      · exact I.call' I4.os I4.base I4.hok I4.bare fun b hb => ⟨(hf b hb).2.2.2.1, (hf b hb).2.1, (hf b hb).2.2.2.2.1, (hf b hb).2.2.2.2.2⟩
      · obtain ⟨v, o, q, d⟩ := I.cell y c e
        exact Nat.ne_of_lt (Nat.lt_of_lt_of_le (Heap.lt_size q) hCle)
      · exact Nat.ne_of_lt (Nat.lt_of_lt_of_le (Heap.lt_size (I.pin p hp).1) hCle)
    · refine thn (T.item (compCx X scope (x :: x2 :: ys) cl H2.objs.size s₂ H fp (X.pn ++ pins)) rfl rfl rfl hc i [] s3 _ H3 _ I3 (stat fr3) st3 go) fun r s4 ⟨u, hr, h4⟩ => ?_
      subst hr
      refine thn h4 fun _ s5 ⟨xv, H5, I5, r5, y5, st5, fr5⟩ => ?_
      have I5' := I5.pinned (stat fr5) (T.obj _ _ st5)
      have hg : PG (compCx X scope (x :: x2 :: ys) cl H2.objs.size s₂ H fp (X.pn ++ pins)) (.Tuple [.Name x px, .Name x2 px2] kt pt) (gTup X.K 2 (gCons (gName 0) (gCons (gName 1) gNil))) := pg_tup hc (pgs_cons (pg_name hnd rfl (.inl hx) (.inr hx)) (pgs_cons (pg_name hnd rfl (.inl hx2) (.inr hx2)) pgs_nil))
      obtain ⟨pa, va, vb, ea, hT, stp⟩ := step xv _ y5
      refine wpAny_mono (hg _ s5 _ H5 xv u (fun σ' H' => σ' = some va :: some vb :: pick σ ix ∧ H' = H5) I5' r5 ⟨pa, [va, vb], ea, hT, rfl, va, [vb], rfl, vb, [], rfl, rfl, rfl, rfl⟩) (fun _ s6 ⟨σ6, H6, I6, e6, e6'⟩ => ?_) fun _ _ z => False.elim z
      subst e6 e6'
      refine wpAny_mono (ht _ _ _ _ _ _ s6 _ _ _ I6 stp) (fun b s7 ⟨H7, I7, q7⟩ => ?_) fun _ _ z => False.elim z
      have again : ∀ {σ8 : St} {H8 : Hp} {s8 : Shared}, Inv (compCx X scope (x :: x2 :: ys) cl H2.objs.size s₂ H fp (X.pn ++ pins)) ([] ++ pinsAt fp s5.heap) σ8 H8 s8 →
          Inv (compCx X scope (x :: x2 :: ys) cl H2.objs.size s₂ H fp (X.pn ++ pins)) [] σ8 H8 s8 ∧ tn (i + 1) s8.heap ∧ ∀ b ∈ fp, H8 b = none := fun {σ8 H8 s8} I8 => by
        refine ⟨I8.unpinned, T.keep _ _ _ st5 fun b hb o e => (I8.pin (b, o) (List.mem_append_right _ (List.mem_append_right _ (mem_pinsAt hb e)))).1, fun b hb => ?_⟩
        obtain ⟨o, e, d⟩ := T.obj _ _ st5 b hb
        exact (I8.pin (b, o) (List.mem_append_right _ (List.mem_append_right _ (mem_pinsAt hb e)))).2.1
      cases b with
      | false =>
        rw [if_neg Bool.false_ne_true] at q7 ⊢
        obtain ⟨m', hm, w7⟩ := q7
        obtain ⟨a1, a2, a3⟩ := again I7
        exact ⟨m', hm, i + 1, ys', some va, some vb, H7, a1, a2, a3, w7⟩
      | true =>
        rw [if_pos rfl] at q7 ⊢
        refine wpAny_mono (he _ _ _ _ _ _ s7 _ _ _ I7 q7) (fun uy s8 ⟨y, H8, I8, r8, hl8, m', hm, w8⟩ => ?_) fun _ _ z => False.elim z
        refine wpAny_mono (mt_append (X := compCx X scope (x :: x2 :: ys) cl H2.objs.size s₂ H fp (X.pn ++ pins)) _ s8 _ H8 (.ref s₂.heap.objs.size) [y] (.ref s₂.heap.objs.size) [uy] (fun _ H9 => H9 = upd H8 s₂.heap.objs.size (.lst (ys' ++ [y]))) I8 rfl (.cons r8 .nil) ⟨_, ys', y, rfl, rfl, hl8, hsz, rfl⟩)
          (fun _ s9 ⟨v9, H9, I9, _, e9⟩ => ?_) fun _ _ z => False.elim z
        subst e9
        obtain ⟨a1, a2, a3⟩ := again I9
        exact ⟨m', hm, i + 1, ys' ++ [y], some va, some vb, _, a1, a2, a3, w8⟩
  exact codeAny_compStart_list (loop _ rfl) (T.self X.A 0 _ _ _ st1 (loop _ rfl))

theorem pe_comp2 {px px2 pt pos : Pos} {kt : Nat} {iter elt : Expr} {ifs : List Expr} {wi : TI} {tt : TT} {te : TE} (hc : X.calm = true) (B : BlockOk X scope x ys ix) (B2 : BlockOk X scope x2 ys ix) (hne : x ≠ x2) (hi : PI X (.Tuple [.Name x px, .Name x2 px2] kt pt) iter wi)
    (ht : ∀ cl L s H ex pn, PTs (compCx X scope (x :: x2 :: ys) cl L s H ex pn) ifs tt) (he : ∀ cl L s H ex pn, PE (compCx X scope (x :: x2 :: ys) cl L s H ex pn) elt te)
    (hs : ∀ v, foldedSetIterable iter X.env v = pure v := by intro _; rfl) : PE X (.ListComp elt [⟨.Tuple [.Name x px, .Name x2 px2] kt pt, iter, ifs, 0⟩] scope pos) (tComp2 X.K wi ix tt te) := by
  intro pins s σ H Q I h
  obtain ⟨cl, hclos, hcl, hcf⟩ := closureFor_ok (scope := scope) (env := X.env) (fun y hy hyf => I.ok.has y.1 (B.free y hy hyf))
  rw [eval_ListComp]
  refine wpAny_comprehension_free (use := none) rfl hs hclos B.kind B.names (thn (hi pins s σ H _ I h) fun xv s1 h1 => thn h1 fun itv s2 h2 => ?_)
  obtain ⟨it, fp, tn, J, H2, e, I2, T, st2, f2, hw⟩ := h2
  subst e
  refine comp_core2 (RR := fun acc C => compPost (model X.prog X.w) X.A X.xe none (EP X pins σ Q) acc C) (Qd := fun l H' => Q (.ref l) H') hc B B2 hne I2 T st2 f2 hcl hcf (ht cl) (he cl) hw ?_
  intro D L H' s' m I' hn hfree h1 h2 h3 h4 q
  exact ⟨m, hn, fun h' hs' => ⟨.ref D, H', I'.turned (it := L) (t' := s'.toks) (fun b o hb e => (hs'.2 b hb).trans e) hfree h1 (.inr h2) h3 h4, rfl, q⟩⟩
end
/-- refs of tuples -/
def TupsAt (H : Hp) (rs : List Addr) (xss : List (List V)) : Prop := rs.length = xss.length ∧ ∀ (i : Nat) (r : Addr) (xs : List V), rs[i]? = some r → xss[i]? = some xs → H r = some (.tup xs)
theorem TupsAt.nil (H : Hp) : TupsAt H [] [] := ⟨rfl, fun i r xs h => by simp at h⟩
theorem TupsAt.keep {H H' : Hp} {rs : List Addr} {xss : List (List V)} (t : TupsAt H rs xss) (k : ∀ r xs, H r = some (.tup xs) → H' r = some (.tup xs)) : TupsAt H' rs xss := ⟨t.1, fun i r xs h1 h2 => k _ _ (t.2 i r xs h1 h2)⟩
theorem TupsAt.same {H H' : Hp} {rs : List Addr} {xss : List (List V)} (t : TupsAt H rs xss) (s : Same H H') : TupsAt H' rs xss := t.keep fun r xs h => s _ _ h
theorem TupsAt.snoc {H : Hp} {rs : List Addr} {xss : List (List V)} {r : Addr} {xs : List V} (t : TupsAt H rs xss) (h : H r = some (.tup xs)) : TupsAt H (rs ++ [r]) (xss ++ [xs]) := by
  refine ⟨by rw [List.length_append, List.length_append, t.1]; rfl, fun i a b h1 h2 => ?_⟩
  by_cases hi : i < rs.length
  · rw [List.getElem?_append_left hi] at h1
    rw [List.getElem?_append_left (by rw [← t.1]; exact hi)] at h2
    exact t.2 i a b h1 h2
  · have hi2 : i = rs.length := by
      have := (List.getElem?_eq_some_iff.mp h1).1
      rw [List.length_append, List.length_singleton] at this
      omega
    subst hi2
    rw [List.getElem?_append_right (Nat.le_refl _), Nat.sub_self] at h1
    rw [List.getElem?_append_right (by rw [t.1]; exact Nat.le_refl _), t.1, Nat.sub_self] at h2
    cases h1
    cases h2
    exact h
theorem TupsAt.mem {H : Hp} {rs : List Addr} {xss : List (List V)} (t : TupsAt H rs xss) {r : Addr} (h : r ∈ rs) : ∃ xs ∈ xss, H r = some (.tup xs) := by
  obtain ⟨i, hi, e⟩ := List.mem_iff_getElem.mp h
  have hi2 : i < xss.length := by rw [← t.1]; exact hi
  exact ⟨xss[i], List.getElem_mem hi2, t.2 i r _ (by rw [List.getElem?_eq_getElem hi, e]) (List.getElem?_eq_getElem hi2)⟩
def pairL (q : V × V) : List V := [q.1, q.2]
/-- [g a b for a, b in .. if p] -/
theorem comp_pure2 {K : PySem.W.Frag} {J : It} {Ok : Hp → Prop} {rs : List Addr} {prs : List (V × V)} {l : Addr} {σf : St} {tt : TT} {te : TE} {H : Hp} {Q : Hp → Prop} (p : V × V → Bool) (g : V × V → V) (hJ : ItIs J Ok (rs.map V.ref)) (hT : TupsAt H rs (prs.map pairL)) (hl : H l = none) (hz : rs.length ≤ sizeLine) (hOk : ∀ H', Same H H' → Ok H')
    (ht : ∀ q H3 Q', q ∈ prs → Same H H3 → (∀ H', Same H3 H' → Q' (p q) H') → tt (some q.1 :: some q.2 :: σf) H3 Q')
    (he : ∀ q H3 Q', q ∈ prs → p q = true → Same H H3 → (∀ H', Same H3 H' → Q' (g q) H') → te (some q.1 :: some q.2 :: σf) H3 Q')
    (hd : ∀ H', Same H H' → H' l = some (.lst ((prs.filter p).map g)) → Q H') : CompW2 K J l σf tt te H Q := by
  have hlen : rs.length = prs.length := by rw [hT.1, List.length_map]
  refine ⟨fun i m ys H2 => m = rs.length - i ∧ i ≤ rs.length ∧ Same H H2 ∧ H2 l = some (.lst ys) ∧ ys = ((prs.take i).filter p).map g, ⟨rs.length, by simp, Nat.zero_le _, Same.upd hl, upd_same, by simp⟩, ?_⟩
  rintro i m ys H2 ⟨rfl, hi, s2, h2, e2⟩
  refine ⟨h2, ?_⟩
  by_cases hlt : i < rs.length
  · refine .inr ⟨hJ.go i H2 (hOk _ s2) (by rw [List.length_map]; exact hlt), ?_, fun x H3 y => ?_⟩
    · rw [e2, List.length_map]
      refine Nat.lt_of_le_of_lt (List.length_filter_le _ _) ?_
      rw [List.length_take]
      omega
    · obtain ⟨e, hx⟩ := hJ.yld i H2 x H3 (hOk _ s2) (by rw [List.length_map]; exact hlt) y
      subst e
      have hq : prs[i]? = some prs[i] := List.getElem?_eq_getElem (by omega)
      have hr : rs[i]? = some rs[i] := List.getElem?_eq_getElem hlt
      rw [List.getElem?_map, hr] at hx
      obtain rfl : V.ref rs[i] = x := Option.some.inj hx
      have mem : prs[i] ∈ prs := List.getElem_mem _
      have tk : prs.take (i + 1) = prs.take i ++ [prs[i]] := by rw [List.take_add_one, hq]; rfl
      refine ⟨rs[i], prs[i].1, prs[i].2, rfl, SqT.of (s2 _ _ (hT.2 i rs[i] _ hr (by rw [List.getElem?_map, hq]; rfl))), ht prs[i] _ _ mem s2 fun H4 s4 => ?_⟩
      cases hp : p prs[i] with
      | false =>
        rw [if_neg Bool.false_ne_true]
        refine ⟨rs.length - (i + 1), by omega, rfl, hlt, s2.trans s4, s4 _ _ h2, ?_⟩
        rw [tk, List.filter_append, e2]
        simp [hp]
      | true =>
        rw [if_pos rfl]
        refine he prs[i] _ _ mem hp (s2.trans s4) fun H5 s5 => ⟨s5 _ _ (s4 _ _ h2), rs.length - (i + 1), by omega, rfl, hlt, fun b o e => ?_, upd_same, ?_⟩
        · rw [upd_ne (ne_of_none e hl)]
          exact s5 _ _ (s4 _ _ (s2 _ _ e))
        · rw [tk, List.filter_append, e2]
          simp [hp]
  · have e : i = rs.length := by omega
    subst e
    refine .inl ⟨?_, hd H2 s2 ?_⟩
    · have := hJ.stop H2 (hOk _ s2)
      rwa [List.length_map] at this
    · rw [h2, e2, hlen, List.take_length]
end L2

set_option Elab.async false
set_option linter.all false
set_option maxRecDepth 100000
set_option maxHeartbeats 4000000
namespace L2
open PySem PySem.Spec PyProof.Rows
theorem Rd.same {H H' : Hp} {a : Addr} {u : HO} (h : Rd H a u) (s : Same H H') : Rd H' a u := by
  rcases h with h | ⟨o, h⟩
  · exact .inl (s _ _ h)
  · exact .inr ⟨o, s _ _ h⟩
theorem DGet.rd {H : Hp} {a : Addr} {kvs : List (Key × V)} {k : Key} (e : Rd H a (.dK kvs)) : DGet H a (kV k) (valV kvs k) := .inl ⟨kvs, k, e, rfl, rfl⟩
/-- a dict that is no more changed -/
def tFrz (te : TE) : TE := fun σ H Q => te σ H fun x H1 => ∃ d kvs, x = .ref d ∧ H1 d = some (.dK kvs) ∧ ∀ o, Q x (upd H1 d (.frz o (.dK kvs)))
/-- a loop over a dict, frozen or not -/
def iDictE (tl : TE) : TI := fun σ H R => tl σ H fun x H1 => ∃ d kvs, x = .ref d ∧ (H1 d = some (.dK kvs) ∨ ∃ o, H1 d = some (.frz o (.dK kvs))) ∧ ∀ o H', H' d = some (.frz o (.dK kvs)) → (∀ c, c ≠ d → H' c = H1 c) → R (Itd d o kvs) H'
/-- each key of the one has a like value in the other -/
def hitsD (kb ka : List (Key × V)) : Bool := ka.all fun kv => match valV kb kv.1 with
  | some y => eqV kv.2 y
  | none => false
def eqD (ka kb : List (Key × V)) : Bool := ka.length == kb.length && hitsD kb ka
def flatD (kvs : List (Key × V)) : Bool := kvs.all fun kv => flatV kv.2
section
variable {X : Cx} {A : Around} {s : Shared}
def rEqD : R2 := fun x y H Q => ∃ a b ka kb, x = .ref a ∧ y = .ref b ∧ Rd H a (.dK ka) ∧ Rd H b (.dK kb) ∧ flatD ka = true ∧ flatD kb = true ∧ Q (.bl (eqD ka kb)) H
def rNeD : R2 := fun x y H Q => ∃ a b ka kb, x = .ref a ∧ y = .ref b ∧ Rd H a (.dK ka) ∧ Rd H b (.dK kb) ∧ flatD ka = true ∧ flatD kb = true ∧ Q (.bl (!eqD ka kb)) H
end
end L2

set_option Elab.async false
set_option linter.all false
set_option maxRecDepth 100000
set_option maxHeartbeats 4000000
namespace Bs
open PySem L2
/-- rows made longer by a sign -/
def blkOne (g : Str) (ws ss : List Str) (q : Str × Str) : List (Str × Str) := (ch g).filterMap fun c => if bears ws (q.2 ++ ⟨#[c]⟩) = true then none else some (q.1 ++ ⟨#[c]⟩, lend ss (q.2 ++ ⟨#[c]⟩))
def blkStep (g : Str) (ws ss : List Str) (qs : List (Str × Str)) : List (Str × Str) := qs.flatMap (blkOne g ws ss)
def blkN (g : Str) (ws ss : List Str) (p : Str) : Nat → List (Str × Str)
  | 0 => [("", p)]
  | n + 1 => blkStep g ws ss (blkN g ws ss p n)
def blocksOf (g : Str) (ws ss ls : List Str) (n : Nat) (p : Str) : List (Str × Str) := (blkN g ws ss p n).filter fun q => decide (q.2 ∈ ls)
def pairV (q : Str × Str) : List V := [.str q.1, .str q.2]
def pairQ (q : Str × Str) : V × V := (.str q.1, .str q.2)
/-- a list of such pairs -/
structure RowsAt (H : Hp) (l : Addr) (rs : List Addr) (qs : List (Str × Str)) : Prop where
  l : H l = some (.lst (rs.map V.ref))
  t : TupsAt H rs (qs.map pairV)
theorem RowsAt.same {H H' : Hp} {l : Addr} {rs : List Addr} {qs : List (Str × Str)} (r : RowsAt H l rs qs) (s : Same H H') : RowsAt H' l rs qs := ⟨s _ _ r.l, r.t.same s⟩
theorem RowsAt.len {H : Hp} {l : Addr} {rs : List Addr} {qs : List (Str × Str)} (r : RowsAt H l rs qs) : rs.length = qs.length := by rw [r.t.1, List.length_map]
theorem RowsAt.push {H : Hp} {l : Addr} {rs : List Addr} {qs : List (Str × Str)} (R : RowsAt H l rs qs) {r : Addr} (hr : H r = none) (q : Str × Str) : RowsAt (upd (upd H r (.tup (pairV q))) l (.lst (rs.map V.ref ++ [.ref r]))) l (rs ++ [r]) (qs ++ [q]) := by
  have hl : (upd H r (.tup (pairV q))) l = some (.lst (rs.map V.ref)) := Same.upd hr _ _ R.l
  refine ⟨by rw [upd_same, List.map_append]; rfl, ?_⟩
  rw [List.map_append]
  refine TupsAt.keep ((R.t.same (Same.upd hr)).snoc upd_same) fun r' xs h => ?_
  rw [upd_ne (fun z => by rw [z, hl] at h; cases h)]
  exact h
theorem RowsAt.upd {H : Hp} {l : Addr} {rs : List Addr} {qs : List (Str × Str)} (R : RowsAt H l rs qs) {d : Addr} {kvs : List (Key × V)} {u : HO} (h : H d = some (.dK kvs)) : RowsAt (L2.upd H d u) l rs qs := by
  refine ⟨?_, R.t.keep fun r xs hr => ?_⟩
  · rw [upd_ne (fun z => by have := R.l; rw [z, h] at this; cases this)]
    exact R.l
  · rw [upd_ne (fun z => by rw [z, h] at hr; cases hr)]
    exact hr
/-- what the blocks' ends weigh -/
def borne (g : Str) (ws ss ls : List Str) (n : Nat) (f : Str → Int) (p : Str) : Int := ((blocksOf g ws ss ls n p).map fun q => f q.2).sum
def fitsB (g : Str) (ws ss ls : List Str) (many : Int) (n : Nat) (f : Str → Int) : Bool := ls.all fun p => decide (many * f p ≤ borne g ws ss ls n f p)
/-- weights: a dict from places to numbers -/
def WtOk (m : List (Str × Int)) (ls : List Str) (f : Str → Int) : Prop := ∀ p ∈ ls, lookI m p = some (f p)
/-- a number for each place -/
def ofW (m : List (Str × Int)) (p : Str) : Int := (lookI m p).getD 0
theorem lookI_some {m : List (Str × Int)} {k : Str} (h : k ∈ m.map (·.1)) : lookI m k = some (ofW m k) := by
  unfold ofW
  induction m with
  | nil => exact nomatch h
  | cons p m ih =>
    obtain ⟨j, u⟩ := p
    unfold lookI
    by_cases e : j = k
    · rw [if_pos e]
      rfl
    · rw [if_neg e]
      refine ih ?_
      rcases List.mem_cons.mp h with z | z
      · exact absurd z.symm e
      · exact z
theorem WtOk.of {m : List (Str × Int)} {ls : List Str} (h : m.map (·.1) = ls) : WtOk m ls (ofW m) := fun p hp => lookI_some (by rw [h]; exact hp)
/-- the blocks of all places, told -/
structure BlksAt (H : Hp) (db : Addr) (o : Obj) (ev : List (Str × Addr)) (Bf : Str → List (Str × Str)) (ls : List Str) : Prop where
  d : H db = some (.frz o (.dK (dRows ev)))
  k : ev.map (·.1) = ls
  r : ∀ q ∈ ev, ∃ rs, RowsAt H q.2 rs (Bf q.1)
  e : ∀ p, ∀ q ∈ Bf p, q.2 ∈ ls
  n : ∀ p, (Bf p).length ≤ 1000
  nd : ls.Nodup
  few : ls.length ≤ 60
theorem BlksAt.same {H H' : Hp} {db : Addr} {o : Obj} {ev : List (Str × Addr)} {Bf : Str → List (Str × Str)} {ls : List Str} (b : BlksAt H db o ev Bf ls) (s : Same H H') : BlksAt H' db o ev Bf ls :=
  ⟨s _ _ b.d, b.k, fun q hq => let ⟨rs, h⟩ := b.r q hq; ⟨rs, h.same s⟩, b.e, b.n, b.nd, b.few⟩
end Bs
namespace Sx
open PySem L2 Bs
def spLBlocks (C : Addr) : Sp := fun vs H Q _ => ∃ (x : Addr) (n : Nat) (g : Str) (ws ss ls : List Str), vs = [.ref x, .int (n : Int)] ∧ BandAt C H x g ws ss ls ∧ g.length ^ n ≤ 100 ∧ n ≤ 10 ∧ 2 ≤ g.length ∧ g.length ≤ 10 ∧ ss.length ≤ 900 ∧
  ∀ (d : Addr) (ev : List (Str × Addr)) (H' : Hp), Same H H' → H d = none → H' d = some (.dK (dRows ev)) → ev.map (·.1) = ls → (∀ m ∈ ev, ∃ rs, RowsAt H' m.2 rs (blocksOf g ws ss ls n m.1)) → (∀ m ∈ ev, H m.2 = none) → Q (.ref d) H'
def spBorne : Sp := fun vs H Q _ => ∃ (db d : Addr) (p : Str) (o : Obj) (ev : List (Str × Addr)) (Bf : Str → List (Str × Str)) (ls : List Str) (m : List (Str × Int)) (f : Str → Int), vs = [.ref db, .str p, .ref d] ∧ BlksAt H db o ev Bf ls ∧ p ∈ ls ∧ Rd H d (.dK (iRows m)) ∧ WtOk m ls f ∧ ∀ H', Same H H' → Q (.int (((Bf p).map fun q => f q.2).sum)) H'
def spSettled : Sp := fun vs H Q _ => ∃ (db dw : Addr) (many t : Int) (o : Obj) (ev : List (Str × Addr)) (Bf : Str → List (Str × Str)) (ls : List Str) (m : List (Str × Int)), vs = [.ref db, .int many, .ref dw, .int t] ∧ BlksAt H db o ev Bf ls ∧ 2 ≤ many ∧ many ≤ 8 ∧ t ≤ 100000 ∧ 0 ≤ t ∧ H dw = some (.dK (iRows m)) ∧ m.map (·.1) = ls ∧
  ∀ (d' : Addr) (m' : List (Str × Int)) (H' : Hp), Same H H' → H' d' = some (.dK (iRows m')) → m'.map (·.1) = ls → Q (.ref d') H'
def spWts : Sp := fun vs H Q _ => ∃ (c : Int) (db : Addr) (many : Int) (o : Obj) (ev : List (Str × Addr)) (Bf : Str → List (Str × Str)) (ls : List Str), vs = [.int c, .ref db, .int many] ∧ BlksAt H db o ev Bf ls ∧ 2 ≤ many ∧ many ≤ 8 ∧
  ∀ (d' : Addr) (m' : List (Str × Int)) (H' : Hp), Same H H' → H' d' = some (.dK (iRows m')) → m'.map (·.1) = ls → Q (.ref d') H'
def spCL (C : Addr) : Sp := fun vs H Q _ => ∃ (x : Addr) (p : Str) (g : Str) (ws ss ls : List Str), vs = [.ref x, .str p] ∧ BandAt C H x g ws ss ls ∧ p ∈ ls ∧ Q .non H
def spLonger (C : Addr) : Sp := fun vs H Q _ => ∃ (x l : Addr) (rs : List Addr) (qs : List (Str × Str)) (g : Str) (ws ss ls : List Str), vs = [.ref x, .ref l] ∧ BandAt C H x g ws ss ls ∧ RowsAt H l rs qs ∧ (∀ q ∈ qs, q.2 ∈ ss ∧ q.1.length ≤ 100) ∧ qs.length ≤ 100 ∧ g.length ≤ 10 ∧
  ∀ (l' : Addr) (rs' : List Addr) (H' : Hp), Same H H' → H l' = none → RowsAt H' l' rs' (blkStep g ws ss qs) → Q (.ref l') H'
def spBlocks (C : Addr) : Sp := fun vs H Q _ => ∃ (x : Addr) (p : Str) (n : Nat) (g : Str) (ws ss ls : List Str), vs = [.ref x, .str p, .int (n : Int)] ∧ BandAt C H x g ws ss ls ∧ p ∈ ls ∧ g.length ^ n ≤ 100 ∧ n ≤ 10 ∧ 2 ≤ g.length ∧ g.length ≤ 10 ∧
  ∀ (l' : Addr) (rs' : List Addr) (H' : Hp), Same H H' → H l' = none → RowsAt H' l' rs' (blocksOf g ws ss ls n p) → Q (.ref l') H'
def spBlockEnds (C : Addr) : Sp := fun vs H Q _ => ∃ (x : Addr) (n : Nat) (g : Str) (ws ss ls : List Str), vs = [.ref x, .int (n : Int)] ∧ BandAt C H x g ws ss ls ∧ g.length ^ n ≤ 100 ∧ n ≤ 10 ∧ 2 ≤ g.length ∧ g.length ≤ 10 ∧ ss.length ≤ 900 ∧
  ∀ (d : Addr) (ev : List (Str × Addr)) (H' : Hp), Same H H' → H d = none → H' d = some (.dK (dRows ev)) → ev.map (·.1) = ls → (∀ m ∈ ev, H' m.2 = some (.lst (((blocksOf g ws ss ls n m.1).map (·.2)).map V.str))) → (∀ m ∈ ev, H m.2 = none) → Q (.ref d) H'
def spWeight (K : PySem.W.Frag) : Sp := fun vs H Q _ => ∃ (l d : Addr) (es : List Str) (m : List (Str × Int)) (f : Str → Int), vs = [.ref l, .ref d] ∧ SqL K H l (es.map V.str) ∧ es.length ≤ 1000 ∧ Rd H d (.dK (iRows m)) ∧ WtOk m es f ∧ ∀ H', Same H H' → Q (.int ((es.map f).sum)) H'
def spFits (C : Addr) : Sp := fun vs H Q _ => ∃ (x d : Addr) (many : Int) (n : Nat) (m : List (Str × Int)) (f : Str → Int) (g : Str) (ws ss ls : List Str), vs = [.ref x, .int many, .int (n : Int), .ref d] ∧ BandAt C H x g ws ss ls ∧ 2 ≤ g.length ∧ g.length ≤ 10 ∧ ss.length ≤ 900 ∧ IsRate g.length many n ∧ Rd H d (.dK (iRows m)) ∧ WtOk m ls f ∧
  ∀ H', Same H H' → Q (.bl (fitsB g ws ss ls many n f)) H'
end Sx

set_option Elab.async false
set_option linter.all false
set_option maxRecDepth 100000
set_option maxHeartbeats 4000000
namespace Bs
open PySem L2 AC
section
variable {g : Str} {ws ss ls : List Str}
/-- weights fit -/
def Fit (g : Str) (ws ss ls : List Str) (many : Int) (n : Nat) (f : Str → Int) : Prop := ∀ p ∈ ls, many * f p ≤ borne g ws ss ls n f p
/-! weights, one for each live place -/
def wRow (f : Str → Int) (ls : List Str) : List (Str × Int) := ls.map fun p => (p, f p)
/-- brought down once -/
def lowF (g : Str) (ws ss ls : List Str) (many : Int) (n : Nat) (f : Str → Int) (p : Str) : Int := if borne g ws ss ls n f p / many < f p then borne g ws ss ls n f p / many else f p
end
end Bs
namespace Sx
open PySem L2 Bs
def spCount0 (C : Addr) : Sp := fun vs H Q _ => ∃ (x : Addr) (p : Str) (n : Int) (g : Str) (ws ss ls : List Str), vs = [.ref x, .str p, .int n] ∧ BandAt C H x g ws ss ls ∧ p ∈ ss ∧ g.length ≤ 10 ∧ ss.length ≤ 900 ∧ 0 ≤ n ∧ n ≤ 100000 ∧ ∀ H', Same H H' → Q (.int (cntF g ws ss n.toNat p)) H'
def spLowered : Sp := fun vs H Q _ => ∃ (de dw : Addr) (many : Int) (n : Nat) (o : Obj) (ev : List (Str × Addr)) (f : Str → Int) (g : Str) (ws ss ls : List Str), vs = [.ref de, .int many, .ref dw] ∧ H de = some (.frz o (.dK (dRows ev))) ∧ ev.map (·.1) = ls ∧ (∀ m ∈ ev, H m.2 = some (.lst (((blocksOf g ws ss ls n m.1).map (·.2)).map V.str))) ∧ g.length ^ n ≤ 100 ∧ ls.Nodup ∧ ls.length ≤ 900 ∧ 2 ≤ many ∧ many ≤ 8 ∧ Rd H dw (.dK (iRows (wRow f ls))) ∧
  ∀ (d : Addr) (H' : Hp), Same H H' → H d = none → H' d = some (.dK (iRows (wRow (lowF g ws ss ls many n f) ls))) → Q (.ref d) H'
/-- the greatest weights up to a most -/
structure Great (g : Str) (ws ss ls : List Str) (many : Int) (n : Nat) (most : Int) (f : Str → Int) : Prop where
  nn : ∀ p ∈ ls, 0 ≤ f p
  le : ∀ p ∈ ls, f p ≤ most
  fit : Fit g ws ss ls many n f
  top : ∀ h : Str → Int, (∀ p ∈ ls, h p ≤ most) → Fit g ws ss ls many n h → ∀ p ∈ ls, h p ≤ f p
def spGreat (C : Addr) : Sp := fun vs H Q _ => ∃ (x : Addr) (many : Int) (n : Nat) (most : Int) (g : Str) (ws ss ls : List Str), vs = [.ref x, .int many, .int (n : Int), .int most] ∧ BandAt C H x g ws ss ls ∧ 2 ≤ g.length ∧ g.length ≤ 10 ∧ ss.length ≤ 900 ∧ IsRate g.length many n ∧ 0 ≤ most ∧
  ∀ (d : Addr) (f : Str → Int) (H' : Hp), Same H H' → H d = none → H' d = some (.dK (iRows (wRow f ls))) → Great g ws ss ls many n most f → Q (.ref d) H'
/-- what scarce tells -/
inductive ScV (g : Str) (ws ss : List Str) (many : Int) (n : Nat) (most : Int) : V → Prop where
  | some (k : Nat) (a : 1 ≤ k) (b : (k : Int) ≤ most) (c : cntF g ws ss (k * n) "" < many ^ k) (d : ∀ j : Nat, 1 ≤ j → j < k → ¬ cntF g ws ss (j * n) "" < many ^ j) : ScV g ws ss many n most (.int (k : Nat))
  | none (a : ∀ j : Nat, 1 ≤ j → (j : Int) ≤ most → ¬ cntF g ws ss (j * n) "" < many ^ j) : ScV g ws ss many n most .non
def spScarceV (C : Addr) : Sp := fun vs H Q _ => ∃ (x : Addr) (many wide most : Int) (g : Str) (ws ss ls : List Str), vs = [.ref x, .int many, .int wide, .int most] ∧ BandAt C H x g ws ss ls ∧ g.length ≤ 10 ∧ ss.length ≤ 900 ∧ IsRate g.length many wide ∧ 0 ≤ most ∧ most ≤ 100 ∧
  ∀ v H', Same H H' → ScV g ws ss many wide.toNat most v → Q v H'
def spPower : Sp := fun vs H Q _ => ∃ (a t : Int), vs = [.int a, .int t] ∧ 0 ≤ a ∧ a ≤ 1000 ∧ 0 ≤ t ∧ t ≤ 100000 ∧ Q (.int (a ^ t.toNat)) H
def spBearsW (C : Addr) : Sp := fun vs H Q _ => ∃ (x dw : Addr) (many : Int) (n k : Nat) (o : Obj) (f : Str → Int) (g : Str) (ws ss ls : List Str), vs = [.ref x, .int many, .int (n : Int), .ref dw, .int (k : Int)] ∧ BandAt C H x g ws ss ls ∧ g.length ≤ 10 ∧ ss.length ≤ 900 ∧ 2 ≤ many ∧ many ≤ 8 ∧ n ≤ 10 ∧ k ≤ 100 ∧ H dw = some (.frz o (.dK (iRows (wRow f ls)))) ∧ (∀ p ∈ ls, 0 ≤ f p) ∧ (∀ p ∈ ls, f p ≤ 1000) ∧ Fit g ws ss ls many n f ∧ ∀ H', Same H H' → Q (.bl true) H'
def spDrawn : Sp := fun vs H Q _ => ∃ (c : Int) (la : Addr) (ls : List Str), vs = [.int c, .ref la] ∧ H la = some (.lst (ls.map V.str)) ∧ ls ≠ [] ∧ ls.Nodup ∧ ls.length ≤ 60 ∧
  ∀ (d : Addr) (f : Str → Int) (H' : Hp), Same H H' → H d = none → H' d = some (.dK (iRows (wRow f ls))) → (∀ p ∈ ls, 0 ≤ f p) → (∀ p ∈ ls, f p ≤ 1000) → (∃ p ∈ ls, 0 < f p) → Q (.ref d) H'
def spLScarce (C : Addr) : Sp := fun vs H Q _ => ∃ (x : Addr) (many : Int) (n k : Nat) (g : Str) (ws ss ls : List Str), vs = [.ref x, .int many, .int (n : Int), .int (k : Int)] ∧ BandAt C H x g ws ss ls ∧ (∀ w ∈ ws, 1 ≤ w.length) ∧ g.length ≤ 10 ∧ ss.length ≤ 900 ∧ 2 ≤ many ∧ many ≤ 8 ∧ n ≤ 10 ∧ k ≤ 100 ∧ cntF g ws ss (k * n) "" < many ^ k ∧ ∀ H', Same H H' → Q (.bl true) H'
def spNeverBoth (K : PySem.W.Frag) (C : Addr) : Sp := fun vs H Q _ => ∃ (x lc : Addr) (many cell : Int) (n : Nat) (cs : List Int) (g : Str) (ws ss ls : List Str), vs = [.ref x, .int many, .int (n : Int), .int cell, .ref lc] ∧ BandAt C H x g ws ss ls ∧ (∀ w ∈ ws, 1 ≤ w.length) ∧ 2 ≤ g.length ∧ g.length ≤ 10 ∧ ss.length ≤ 60 ∧ IsRate g.length many n ∧ SqL K H lc (cs.map V.int) ∧ ∀ H', Same H H' → Q (.bl true) H'
end Sx
namespace Bs
open PySem L2
end Bs

set_option Elab.async false
set_option linter.all false
set_option maxRecDepth 100000
set_option maxHeartbeats 4000000
namespace L2
open PySem PySem.Spec PyProof.Rows
section
variable {X : Cx}
end
end L2
namespace Bs
open PySem L2
end Bs
namespace Sx
open PySem L2 Bs
def spDictQ : Sp := fun vs H Q _ => ∃ (df db : Addr) (most : Int) (o : Obj) (ev : List (Str × Addr)) (Bf : Str → List (Str × Str)) (f : Str → Int) (ls : List Str), vs = [.ref df, .ref db, .int most] ∧ H df = some (.dK (iRows (wRow f ls))) ∧ BlksAt H db o ev Bf ls ∧ (∀ p ∈ ls, 0 ≤ f p) ∧ (∀ p ∈ ls, f p ≤ most) ∧ ∀ H', Same H H' → Q (.bl true) H'
def spStart : Sp := fun vs H Q _ => ∃ (c : Int) (db : Addr) (most : Int) (o : Obj) (ev : List (Str × Addr)) (Bf : Str → List (Str × Str)) (ls : List Str), vs = [.int c, .ref db, .int most] ∧ BlksAt H db o ev Bf ls ∧ 0 ≤ most ∧
  ∀ (d : Addr) (f : Str → Int) (H' : Hp), Same H H' → H d = none → H' d = some (.dK (iRows (wRow f ls))) → (∀ p ∈ ls, 0 ≤ f p) → (∀ p ∈ ls, f p ≤ most) → Q (.ref d) H'
def spSettledF : Sp := fun vs H Q _ => ∃ (db dw : Addr) (many t : Int) (n : Nat) (o : Obj) (ev : List (Str × Addr)) (f0 : Str → Int) (g : Str) (ws ss ls : List Str), vs = [.ref db, .int many, .ref dw, .int t] ∧ BlksAt H db o ev (blocksOf g ws ss ls n) ls ∧ 2 ≤ many ∧ many ≤ 8 ∧ t ≤ 100000 ∧ H dw = some (.dK (iRows (wRow f0 ls))) ∧ (∀ p ∈ ls, 0 ≤ f0 p) ∧ ((((ls.map fun p => (f0 p).toNat).sum : Nat)) : Int) < t ∧
  ∀ (d' : Addr) (f : Str → Int) (H' : Hp), Same H H' → H' d' = some (.dK (iRows (wRow f ls))) → (∀ p ∈ ls, 0 ≤ f p) → (∀ p ∈ ls, f p ≤ f0 p) → Fit g ws ss ls many n f → (∀ h : Str → Int, Fit g ws ss ls many n h → (∀ p ∈ ls, h p ≤ f0 p) → ∀ p ∈ ls, h p ≤ f p) → Q (.ref d') H'
def spRightG (K : PySem.W.Frag) (C : Addr) : Sp := fun vs H Q _ => ∃ (x db lc : Addr) (many most : Int) (n : Nat) (o : Obj) (ev : List (Str × Addr)) (cs : List Int) (g : Str) (ws ss ls : List Str), vs = [.ref x, .int many, .int (n : Int), .ref db, .int most, .ref lc] ∧ BandAt C H x g ws ss ls ∧ 2 ≤ g.length ∧ g.length ≤ 10 ∧ ss.length ≤ 60 ∧ IsRate g.length many n ∧ BlksAt H db o ev (blocksOf g ws ss ls n) ls ∧ 1 ≤ most ∧ most ≤ 8 ∧ SqL K H lc (cs.map V.int) ∧ ∀ H', Same H H' → Q (.bl true) H'
end Sx

set_option Elab.async false
set_option linter.all false
set_option maxRecDepth 100000
set_option maxHeartbeats 4000000
namespace Bs
open PySem L2
section
variable {g : Str} {ws ss ls : List Str}
/-- weights, nought where no place is live -/
def onL (ls : List Str) (f : Str → Int) (e : Str) : Int := if decide (e ∈ ls) = true then f e else 0
end
end Bs
namespace Sx
open PySem L2 Bs
section
variable {g : Str} {ws ss ls : List Str} {many many' most most' : Int} {n : Nat} {f f' : Str → Int}
theorem Great.most_le (G : Great g ws ss ls many n most f) (G' : Great g ws ss ls many n most' f') (h : most ≤ most') : ∀ p ∈ ls, f p ≤ f' p := G'.top f (fun p hp => Int.le_trans (G.le p hp) h) G.fit
theorem Great.one (G : Great g ws ss ls many n most f) (G' : Great g ws ss ls many n most f') : ∀ p ∈ ls, f p = f' p := fun p hp => Int.le_antisymm (G.most_le G' (Int.le_refl _) p hp) (G'.most_le G (Int.le_refl _) p hp)
end
def spBeneath : Sp := fun vs H Q _ => ∃ (d1 d2 : Addr) (o : Obj) (f h : Str → Int) (ls : List Str), vs = [.ref d1, .ref d2] ∧ H d1 = some (.frz o (.dK (iRows (wRow f ls)))) ∧ Rd H d2 (.dK (iRows (wRow h ls))) ∧ ls.length ≤ 60 ∧ (∀ p ∈ ls, f p ≤ h p) ∧ ∀ H', Same H H' → Q (.bl true) H'
def spMoreData (C : Addr) : Sp := fun vs H Q _ => ∃ (x y : Addr) (many most : Int) (n : Nat) (g : Str) (ws ss ls ws' ss' ls' : List Str), vs = [.ref x, .ref y, .int many, .int (n : Int), .int most] ∧ BandAt C H x g ws ss ls ∧ BandAt C H y g ws' ss' ls' ∧ 2 ≤ g.length ∧ g.length ≤ 10 ∧ ss.length ≤ 60 ∧ ss'.length ≤ 60 ∧ IsRate g.length many n ∧ 0 ≤ most ∧ ∀ H', Same H H' → Q (.bl true) H'
def spScarcer (C : Addr) : Sp := fun vs H Q _ => ∃ (x : Addr) (many most : Int) (n : Nat) (g : Str) (ws ss ls : List Str), vs = [.ref x, .int many, .int (n : Int), .int most] ∧ BandAt C H x g ws ss ls ∧ g.length ≤ 10 ∧ ss.length ≤ 60 ∧ IsRate g.length many n ∧ 0 ≤ most ∧ most ≤ 100 ∧ ∀ H', Same H H' → Q (.bl true) H'
def spWider (C : Addr) : Sp := fun vs H Q _ => ∃ (x : Addr) (most : Int) (n : Nat) (g : Str) (ws ss ls : List Str), vs = [.ref x, .int (n : Int), .str g, .int most] ∧ BandAt C H x g ws ss ls ∧ 2 ≤ g.length ∧ g.length ≤ 4 ∧ ss.length ≤ 60 ∧ 1 ≤ n ∧ n ≤ 6 ∧ (g.length : Int) ^ n ≤ 64 ∧ 0 ≤ most ∧ ∀ H', Same H H' → Q (.bl true) H'
end Sx

set_option Elab.async false
set_option linter.all false
set_option maxRecDepth 100000
set_option maxHeartbeats 4000000
namespace Bs
open PySem L2 AC
section
variable {g : Str} {ws ss : List Str}
/-- all rows of a length, in order: from the front -/
def frt (g : Str) : Nat → List Str
  | 0 => [""]
  | n + 1 => (ch g).flatMap fun c => (frt g n).map fun r => (⟨#[c]⟩ : Str) ++ r
/-- and made longer at the end -/
def bck (g : Str) : Nat → List Str
  | 0 => [""]
  | n + 1 => (bck g n).flatMap fun r => (ch g).map fun c => r ++ (⟨#[c]⟩ : Str)
/-- good rows behind a text, in order -/
def gdB (g : Str) (ws : List Str) (t : Str) (n : Nat) : List Str := (frt g n).filter fun r => !bears ws (t ++ r)
/-- the rest of the rows, from a sign on -/
def gdF (g : Str) (ws : List Str) (t : Str) (n : Nat) (cs : List Nat) : List Str := cs.flatMap fun c => (gdB g ws (t ++ ⟨#[c]⟩) n).map fun r => (⟨#[c]⟩ : Str) ++ r
end
end Bs

set_option Elab.async false
set_option linter.all false
set_option maxRecDepth 100000
set_option maxHeartbeats 4000000
namespace L2
open PySem PySem.Spec PyProof.Rows
section
variable {X : Cx}
/-- a range with a step -/
def rng3 (p : Addr) (a b c : Int) : HO := .ext fun h => ∃ t u v, IsRange h p a b c t u v
end
end L2

set_option Elab.async false
set_option linter.all false
set_option maxRecDepth 100000
set_option maxHeartbeats 4000000
namespace Bs
open PySem L2
/-- how many rows go through a sign -/
def thr (g : Str) (ws ss : List Str) (n : Nat) (p : Str) (c : Nat) : Int := if bears ws (p ++ ⟨#[c]⟩) = true then 0 else cntF g ws ss n (lend ss (p ++ ⟨#[c]⟩))
def gThr (g : Str) (ws ss : List Str) (n : Nat) (p : Str) : V → V := fun v => match v with
  | .str z => .int (thr g ws ss n p (z.cps.getD 0 0))
  | _ => .non
end Bs
namespace Sx
open PySem L2 Bs
def spThrough (C : Addr) : Sp := fun vs H Q _ => ∃ (x dc : Addr) (p : Str) (c n : Nat) (g : Str) (ws ss ls : List Str), vs = [.ref x, .str p, .str ⟨#[c]⟩, .ref dc] ∧ BandAt C H x g ws ss ls ∧ p ∈ ss ∧ c ∈ ch g ∧ H dc = some (.dK (cRow g ws ss n)) ∧ Q (.int (thr g ws ss n p c)) H
def spRowAt (C : Addr) : Sp := fun vs H Q _ => ∃ (x : Addr) (n k : Nat) (r g : Str) (ws ss ls : List Str), vs = [.ref x, .int (n : Int), .int (k : Int)] ∧ BandAt C H x g ws ss ls ∧ (∀ w ∈ ws, 1 ≤ w.length) ∧ g.length ≤ 10 ∧ ss.length ≤ 900 ∧ n ≤ 1000 ∧ (gdB g ws "" n)[k]? = some r ∧ ∀ H', Same H H' → Q (.str r) H'
def spNumberOf (C : Addr) : Sp := fun vs H Q _ => ∃ (x : Addr) (k : Nat) (r g : Str) (ws ss ls : List Str), vs = [.ref x, .str r] ∧ BandAt C H x g ws ss ls ∧ (∀ w ∈ ws, 1 ≤ w.length) ∧ (ch g).Nodup ∧ g.length ≤ 10 ∧ ss.length ≤ 900 ∧ r.length ≤ 1000 ∧ (gdB g ws "" r.length)[k]? = some r ∧ ∀ H', Same H H' → Q (.int (k : Int)) H'
def spRows10 : Sp := fun vs H Q _ => ∃ (g : Str) (n : Nat), vs = [.str g, .int (n : Int)] ∧ g.length ^ n ≤ 1000 ∧ 2 ≤ g.length ∧ g.length ≤ 10 ∧ n ≤ 10 ∧ ∀ (l : Addr) (H' : Hp), Same H H' → H l = none → H' l = some (.lst ((bck g n).map V.str)) → Q (.ref l) H'
def spGood10 (K : PySem.W.Frag) : Sp := fun vs H Q _ => ∃ (r : Str) (a : Addr) (ws : List Str), vs = [.str r, .ref a] ∧ SqL K H a (ws.map V.str) ∧ ws.length ≤ 1000 ∧ ∀ H', Same H H' → Q (.bl (!bears ws r)) H'
def spNum10 : Sp := fun vs H Q _ => ∃ i : Int, vs = [.int i, .int i] ∧ Q (.bl true) H
end Sx

set_option Elab.async false
set_option linter.all false
set_option maxRecDepth 100000
set_option maxHeartbeats 4000000
namespace L2
open PySem PySem.Spec PyProof.Rows
section
variable {X : Cx}
/-- // by a divisor of many figures -/
def CDivB (i j : Int) : Prop := 0 < j ∧ j.natAbs.log2 < 9000
end
theorem cut_from (xs : List V) (k : Nat) : cutV xs (some (k : Int)) none = xs.drop k := by
  unfold cutV HT.sIx
  simp only
  split
  · omega
  · by_cases h : k ≤ xs.length
    · rw [show min ((k : Int)).toNat xs.length = k by omega]
      exact List.take_of_length_le (by rw [List.length_drop]; exact Nat.le_refl _)
    · rw [show min ((k : Int)).toNat xs.length = xs.length by omega, Nat.sub_self, List.take_zero, List.drop_eq_nil_of_le (by omega)]
end L2
namespace Sx
open PySem L2 Bs
def spShaken : Sp := fun vs H Q _ => ∃ (c : Int) (m : Nat), vs = [.int c, .int (m : Int)] ∧ m ≤ 1000 ∧ ∀ (l : Addr) (xs : List Int) (H' : Hp), Same H H' → H l = none → H' l = some (.lst (xs.map V.int)) → xs.length = m → Q (.ref l) H'
def spBandQ (K : PySem.W.Frag) : Sp := fun vs H Q _ => ∃ (a : Addr) (ns : List Int), vs = [.ref a] ∧ SqL K H a (ns.map V.int) ∧ ∀ (p lw : Addr) (g : Str) (ws : List Str) (H' : Hp), Same H H' → H p = none → H lw = none → H' p = some (.tup [.str g, .ref lw]) → H' lw = some (.lst (ws.map V.str)) → Signs g → ws.length ≤ 6 → (∀ w ∈ ws, Word g w) → Q (.ref p) H'
def spRateQ (K : PySem.W.Frag) : Sp := fun vs H Q _ => ∃ (a : Addr) (ns : List Int) (g : Str), vs = [.ref a, .str g] ∧ SqL K H a (ns.map V.int) ∧ 2 ≤ g.length ∧ g.length ≤ 4 ∧ ∀ (p : Addr) (many wide : Int) (H' : Hp), Same H H' → H p = none → H' p = some (.tup [.int many, .int wide]) → IsRate g.length many wide → Q (.ref p) H'
end Sx

set_option Elab.async false
set_option linter.all false
set_option maxRecDepth 100000
set_option maxHeartbeats 4000000
namespace L2
open PySem PySem.Spec PyProof.Rows
/-- lo, lo + c, .. (n of them) -/
def Itr3 (lo c : Int) (n : Nat) : It := ⟨fun i _ => i < n, fun i H x H' => H' = H ∧ x = .int (lo + (i : Nat) * c), fun i _ => n ≤ i⟩
section
variable {X : Cx} {tg : Expr}
/-- a range downwards by ones -/
def iRng3 (ta : TA) : TI := fun σ H R => ta σ H fun vs H1 => ∃ i j : Int, vs = [.int i, .int j, .int (-1)] ∧ (0 ≤ i ∧ i ≤ 1000000 ∧ 0 ≤ j ∧ j ≤ 1000000) ∧ R (Itr3 i (-1) (i - j).toNat) H1
end
end L2
namespace Bs
open PySem L2
section
variable {ws ss : List Str}
/-- rows counted by their places -/
def addQ (ws ss : List Str) (e : Str) (v : Int) (m : List (Str × Int)) (c : Nat) : List (Str × Int) := if bears ws (e ++ ⟨#[c]⟩) = true then m else bump m (lend ss (e ++ ⟨#[c]⟩)) v
def innP (g : Str) (ws ss : List Str) (m : List (Str × Int)) (p : Str × Int) : List (Str × Int) := (ch g).foldl (addQ ws ss p.1 p.2) m
def hereP (g : Str) (ws ss : List Str) : Nat → List (Str × Int)
  | 0 => [("", 1)]
  | n + 1 => (hereP g ws ss n).foldl (innP g ws ss) []
def goP (ws ss : List Str) (F : Str → Int) (e : Str) (c : Nat) : Int := if bears ws (e ++ ⟨#[c]⟩) = true then 0 else F (lend ss (e ++ ⟨#[c]⟩))
/-- keys: each once, places that no word stands in -/
structure KeysP (ss : List Str) (m : List (Str × Int)) : Prop where
  nd : (m.map (·.1)).Nodup
  sh : ∀ k ∈ m.map (·.1), k ∈ ss
theorem KeysP.nil : KeysP ss [] := ⟨List.nodup_nil, fun k h => nomatch h⟩
theorem KeysP.bump {m : List (Str × Int)} (h : KeysP ss m) {k : Str} {v : Int} (hk : k ∈ ss) : KeysP ss (bump m k v) := by
  by_cases hm : k ∈ m.map (·.1)
  · exact ⟨by rw [bump_keys, if_pos hm]; exact h.nd, by rw [bump_keys, if_pos hm]; exact h.sh⟩
  · refine ⟨?_, ?_⟩
    · rw [bump_keys, if_neg hm]
      exact List.nodup_append.mpr ⟨h.nd, List.nodup_cons.mpr ⟨fun z => (nomatch z), List.nodup_nil⟩, fun a ha b hb z => hm (by rw [← List.mem_singleton.mp hb, ← z]; exact ha)⟩
    · rw [bump_keys, if_neg hm]
      intro j hj
      rcases List.mem_append.mp hj with z | z
      · exact h.sh j z
      · rw [List.mem_singleton.mp z]
        exact hk
theorem KeysP.add (he : ("" : Str) ∈ ss) {m : List (Str × Int)} (h : KeysP ss m) {e : Str} {v : Int} {c : Nat} : KeysP ss (addQ ws ss e v m c) := by
  unfold addQ
  split
  · exact h
  · exact h.bump (lend_mem he _)
theorem KeysP.fold (he : ("" : Str) ∈ ss) {e : Str} {v : Int} : ∀ {cs : List Nat} {m : List (Str × Int)}, KeysP ss m → KeysP ss (cs.foldl (addQ ws ss e v) m)
  | [], m, h => h
  | c :: cs, m, h => KeysP.fold (cs := cs) he (h.add he)
theorem KeysP.steps (he : ("" : Str) ∈ ss) {g : Str} : ∀ {hs m : List (Str × Int)}, KeysP ss m → KeysP ss (hs.foldl (innP g ws ss) m)
  | [], m, h => h
  | p :: hs, m, h => KeysP.steps (hs := hs) he (KeysP.fold he h)
theorem KeysP.here (he : ("" : Str) ∈ ss) {g : Str} : ∀ n, KeysP ss (hereP g ws ss n)
  | 0 => ⟨List.nodup_cons.mpr ⟨fun z => (nomatch z), List.nodup_nil⟩, fun k hk => by
      rw [List.mem_singleton.mp hk]
      exact he⟩
  | n + 1 => KeysP.steps he KeysP.nil
theorem KeysP.len {m : List (Str × Int)} (h : KeysP ss m) : m.length ≤ ss.length := by
  have := nodup_le h.nd h.sh
  rw [List.length_map] at this
  exact this
end
end Bs
namespace Sx
open PySem L2 Bs
/-- the place of a good row, by the words -/
def spTail (K : PySem.W.Frag) : Sp := fun vs H Q _ => ∃ (r : Str) (a : Addr) (ws ss : List Str), vs = [.str r, .ref a] ∧ SqL K H a (ws.map V.str) ∧ ss.Perm (keysS ws "" ws) ∧ (∀ w ∈ ws, w.length ≤ 5) ∧ ws.length ≤ 100 ∧ bears ws r = false ∧ r.length ≤ 1000 ∧ ∀ H', Same H H' → Q (.str (lend ss r)) H'
def spCountP (K : PySem.W.Frag) : Sp := fun vs H Q _ => ∃ (g : Str) (lw : Addr) (ws ss : List Str) (n : Nat), vs = [.str g, .ref lw, .int (n : Int)] ∧ H lw = some (.lst (ws.map V.str)) ∧ g.length ≤ 4 ∧ n ≤ 1000 ∧ ws.length ≤ 6 ∧ (∀ w ∈ ws, 1 ≤ w.length) ∧ (∀ w ∈ ws, w.length ≤ 5) ∧ ss.Perm (keysS ws "" ws) ∧ ∀ H', Same H H' → Q (.int (cntF g ws ss n "")) H'
def spWtsQ (K : PySem.W.Frag) (C : Addr) : Sp := fun vs H Q _ => ∃ (a x : Addr) (ns : List Int) (many : Int) (n : Nat) (g : Str) (ws ss ls : List Str), vs = [.ref a, .ref x, .int many, .int (n : Int)] ∧ SqL K H a (ns.map V.int) ∧ BandAt C H x g ws ss ls ∧ 2 ≤ g.length ∧ g.length ≤ 10 ∧ ss.length ≤ 60 ∧ IsRate g.length many n ∧
  ∀ (d : Addr) (f : Str → Int) (H' : Hp), Same H H' → H d = none → H' d = some (.dK (iRows (wRow f ls))) → (∀ p ∈ ls, 0 ≤ f p) → (∀ p ∈ ls, f p ≤ 1000) → Q (.ref d) H'
end Sx

set_option Elab.async false
set_option linter.all false
set_option maxRecDepth 100000
set_option maxHeartbeats 4000000
namespace L2
open PySem PySem.Spec PyProof.Rows
section
variable {M : Model} {A : Around} {E : Value → Shared → Prop} {e C CB : Addr} {nm q : Str} {N : Addr} {bs : List Value} {hdct : Bool} {sn : List Str} {sub : List Value} {ab : Bool} {col : Option Bool} {dd : Option Addr} {k0 k1 k2 k3 k5 : Option Value}
end
/-- try: body / except C: x = True -/
def tTry0 (C : Addr) (b : Bool) (tb : TSx) (i : Nat) : TS := fun D σ H => tb (fun σ' cv od H' => cv = .ref C ∧ D.nx (σ'.set i (some (.bl b))) H') D σ H
section
variable {X : Cx} {CB C : Addr} {nmC x nm : Str} {b : Bool} {body : List Stmt} {tb : TSx} {i jj : Nat} {p1 p2 p3 p4 hpos pos : Pos}
end
end L2
namespace Bs
open PySem L2
section
variable {g : Str} {ws ss : List Str}
/-- stands ahead, by the signs' order -/
structure LtG (g r r' : Str) (k c d : Nat) : Prop where
  eq : ∀ m, m < k → (ch r)[m]? = (ch r')[m]?
  hc : (ch r)[k]? = some c
  hd : (ch r')[k]? = some d
  lt : ∃ i j : Nat, (ch g)[i]? = some c ∧ (ch g)[j]? = some d ∧ i < j
theorem LtG.cons {r r' : Str} {k c d : Nat} (h : LtG g r r' k c d) (e : Nat) : LtG g ((⟨#[e]⟩ : Str) ++ r) ((⟨#[e]⟩ : Str) ++ r') (k + 1) c d := by
  have ec : ∀ z : Str, ch ((⟨#[e]⟩ : Str) ++ z) = e :: ch z := fun z => by rw [ch_append, ch_one]; rfl
  refine ⟨fun m hm => ?_, ?_, ?_, h.lt⟩
  · rw [ec, ec]
    cases m with
    | zero => rfl
    | succ m => exact h.eq m (by omega)
  · rw [ec]; exact h.hc
  · rw [ec]; exact h.hd
def LtR (g r r' : Str) : Prop := ∃ k c d, LtG g r r' k c d
/-- a dict of the ends of places, as far as they are known -/
structure EndsAt (H : Hp) (de : Addr) (g : Str) (ws ss : List Str) (ev : List (Str × Addr)) : Prop where
  at_ : H de = some (.dK (dRows ev))
  nd : (ev.map (·.1)).Nodup
  sh : ∀ k ∈ ev.map (·.1), k ∈ ss
  row : ∀ m ∈ ev, H m.2 = some (.lst ((endsOf g ws ss m.1).map V.str))
theorem EndsAt.ne {H : Hp} {de dm : Addr} {ev : List (Str × Addr)} {rs : List (Key × V)} (h : EndsAt H de g ws ss ev) (hd : H dm = some (.dK rs)) : ∀ m ∈ ev, m.2 ≠ dm := fun m hm z => by
  have := h.row m hm
  rw [z, hd] at this
  cases this
theorem EndsAt.len {H : Hp} {de : Addr} {ev : List (Str × Addr)} (h : EndsAt H de g ws ss ev) : ev.length ≤ ss.length := by
  have := nodup_le h.nd h.sh
  rw [List.length_map] at this
  exact this
/-- what was written lies elsewhere -/
theorem EndsAt.keep {H H' : Hp} {de dm : Addr} {ev : List (Str × Addr)} {rs : List (Key × V)} (h : EndsAt H de g ws ss ev) (hd : H dm = some (.dK rs)) (hne : de ≠ dm) (k : ∀ c o, H c = some o → c ≠ dm → H' c = some o) : EndsAt H' de g ws ss ev :=
  ⟨k _ _ h.at_ hne, h.nd, h.sh, fun m hm => k _ _ (h.row m hm) (h.ne hd m hm)⟩
theorem EndsAt.same {H H' : Hp} {de : Addr} {ev : List (Str × Addr)} (h : EndsAt H de g ws ss ev) (s : Same H H') : EndsAt H' de g ws ss ev := ⟨s _ _ h.at_, h.nd, h.sh, fun m hm => s _ _ (h.row m hm)⟩
end
end Bs
namespace Sx
open PySem L2 Bs
/-- the row of a number, or NoNumber -/
def spRowAtE (C CN : Addr) : Sp := fun vs H Q E => ∃ (x : Addr) (n : Nat) (k : Int) (g : Str) (ws ss ls : List Str), vs = [.ref x, .int (n : Int), .int k] ∧ BandAt C H x g ws ss ls ∧ (∀ w ∈ ws, 1 ≤ w.length) ∧ g.length ≤ 10 ∧ ss.length ≤ 900 ∧ n ≤ 1000 ∧
  ((∃ (q : Nat) (r : Str), k = q ∧ (gdB g ws "" n)[q]? = some r ∧ ∀ H', Same H H' → Q (.str r) H') ∨ ((k < 0 ∨ cntF g ws ss n "" ≤ k) ∧ ∀ H', Same H H' → E (.ref CN) none H'))
def spRefused12 (C : Addr) : Sp := fun vs H Q _ => ∃ (x : Addr) (n : Nat) (k : Int) (g : Str) (ws ss ls : List Str), vs = [.ref x, .int (n : Int), .int k] ∧ BandAt C H x g ws ss ls ∧ (∀ w ∈ ws, 1 ≤ w.length) ∧ g.length ≤ 10 ∧ ss.length ≤ 900 ∧ n ≤ 1000 ∧ (k < 0 ∨ cntF g ws ss n "" ≤ k) ∧ ∀ H', Same H H' → Q (.bl true) H'
def spAhead12 : Sp := fun vs H Q _ => ∃ (r r' g : Str), vs = [.str r, .str r', .str g] ∧ LtR g r r' ∧ (ch g).Nodup ∧ r.length = r'.length ∧ r.length ≤ 1000 ∧ g.length ≤ 10 ∧ Q (.bl true) H
def spRight12 (K : PySem.W.Frag) (C : Addr) : Sp := fun vs H Q _ => ∃ (x lw : Addr) (n q : Nat) (r g : Str) (ws ss ls : List Str), vs = [.ref x, .ref lw, .int (n : Int), .int (q : Int)] ∧ BandAt C H x g ws ss ls ∧ SqL K H lw (ws.map V.str) ∧ (∀ w ∈ ws, 1 ≤ w.length) ∧ (ch g).Nodup ∧ g.length ≤ 10 ∧ ss.length ≤ 900 ∧ n ≤ 1000 ∧ ws.length ≤ 1000 ∧ (gdB g ws "" n)[q]? = some r ∧ ∀ H', Same H H' → Q (.str r) H'
end Sx

set_option Elab.async false
set_option linter.all false
set_option maxRecDepth 100000
set_option maxHeartbeats 4000000
namespace L2
open PySem PySem.Spec PyProof.Rows
section
variable {prog : Program} {w : World} {A : Around} {R : Result → Shared → Prop} {s : Shared} {d it l t : Addr} {i : Nat} {items : Array Value}
end
section
variable {prog : Program} {w : World} {K : Type} [DecidableEq K] {knd : KeyKind prog w K} {A : Around} {E : Value → Shared → Prop} {s : Shared} {l : Addr} {o : Obj} {items : Array Value} {n : Nat}
end
section
variable {X : Cx} {A : Around} {pins : List (Addr × Obj)} {σ : St} {H : Hp} {d it l : Addr} {ts : List Addr} {ps : List (Key × V)} {R : Result → Shared → Prop}
end
end L2
namespace Bs
open PySem L2
end Bs
namespace Sx
open PySem L2 Bs
def spTables (K : PySem.W.Frag) : Sp := fun vs H Q _ => ∃ (g : Str) (lw lp : Addr) (n : Nat) (ws ss : List Str), vs = [.str g, .ref lw, .ref lp, .int (n : Int)] ∧ H lw = some (.lst (ws.map V.str)) ∧ H lp = some (.lst (ss.map V.str)) ∧ ("" : Str) ∈ ss ∧ ss.Nodup ∧ (∀ p ∈ ss, p.length ≤ 5) ∧ ss.length ≤ 900 ∧ g.length ≤ 10 ∧ ws.length ≤ 1000 ∧ n ≤ 1000 ∧
  ∀ (l : Addr) (ts : List Addr) (H' : Hp), Same H H' → H l = none → H' l = some (.lst (ts.map V.ref)) → ts.length = n + 1 → (∀ i t, ts[i]? = some t → H' t = some (.dK (cRow g ws ss i))) → Q (.ref l) H'
end Sx

set_option Elab.async false
set_option linter.all false
set_option maxRecDepth 100000
set_option maxHeartbeats 4000000
namespace L2
open PySem PySem.Spec PyProof.Rows
section
variable {X : Cx}
/-- two tuples of flat things are unlike -/
def rNeTup (K : PySem.W.Frag) : R2 := fun x y H Q => ∃ a b xs ys, x = .ref a ∧ y = .ref b ∧ SqT K H a xs ∧ SqT K H b ys ∧ xs.length = ys.length ∧ xs.all flatV = true ∧ ys.all flatV = true ∧ Q (.bl (!eqVs xs ys)) H
end
end L2
namespace Bs
open PySem L2
section
variable {g : Str} {ws ss ss' : List Str}
end
/-- what a number is -/
def isInt : V → Bool
  | .int _ => true
  | _ => false
/-- what is asked of a row's number, and answered -/
inductive AskN (g : Str) (ws : List Str) (r : Str) : Int → L2.V → Prop where
  | out {i : Nat} (h : Out g r i) : AskN g ws r 1 (.int (i : Nat))
  | good {k : Nat} (h : (gdB g ws "" r.length)[k]? = some r) : AskN g ws r 0 (.int (k : Nat))
  | bad {n : Nat} (h : Ins g r) (hb : Bad ws r n) : AskN g ws r 2 (.int ((n : Nat) + 1))
end Bs
namespace Sx
open PySem L2 Bs
def spWholeT : Sp := fun vs H Q _ => ∃ v : V, vs = [v] ∧ Thing H v ∧ Q (.bl (isInt v)) H
/-- what is no row's number is refused -/
def spRowAtX (C CN : Addr) : Sp := fun vs H Q E => ∃ (x : Addr) (n : Nat) (v : V) (g : Str) (ws ss ls : List Str), vs = [.ref x, .int (n : Int), v] ∧ BandAt C H x g ws ss ls ∧ g.length ≤ 10 ∧ ss.length ≤ 900 ∧ n ≤ 1000 ∧ Thing H v ∧ (∀ k : Int, v = .int k → k < 0 ∨ cntF g ws ss n "" ≤ k) ∧ ∀ H', Same H H' → E (.ref CN) none H'
def spNumberE (C CR CB : Addr) : Sp := fun vs H Q E => ∃ (x : Addr) (r g : Str) (ws ss ls : List Str), vs = [.ref x, .str r] ∧ BandAt C H x g ws ss ls ∧ (∀ w ∈ ws, 1 ≤ w.length) ∧ (ch g).Nodup ∧ g.length ≤ 10 ∧ ss.length ≤ 900 ∧ r.length ≤ 1000 ∧
  ((∃ k : Nat, (gdB g ws "" r.length)[k]? = some r ∧ ∀ H', Same H H' → Q (.int (k : Int)) H') ∨ (∃ n, Ins g r ∧ Bad ws r n ∧ NoX CB "length" (.int ((n : Nat) + 1)) H E) ∨ (∃ i, Out g r i ∧ NoX CR "number" (.int (i : Nat)) H E))
def spTold (CR CB CN : Addr) : Sp := fun vs H Q _ => ∃ (c f : V) (a : Int) (b : V), vs = [c, f] ∧
  ((c = .non ∧ a = 0 ∧ b = f) ∨ (∃ e dd, c = .ref e ∧ H e = some (XC e CR (some dd)) ∧ H dd = some (.xd [("number", b)]) ∧ a = 1) ∨ (∃ e dd, c = .ref e ∧ H e = some (XC e CB (some dd)) ∧ H dd = some (.xd [("length", b)]) ∧ a = 2) ∨ (∃ e, c = .ref e ∧ H e = some (XC e CN none) ∧ a = 3 ∧ b = .bl true)) ∧
  ∀ p H', Same H H' → H' p = some (.tup [.int a, b]) → Q (.ref p) H'
def spNof (C : Addr) : Sp := fun vs H Q _ => ∃ (x : Addr) (r g : Str) (ws ss ls : List Str) (a : Int) (b : V), vs = [.ref x, .str r] ∧ BandAt C H x g ws ss ls ∧ (∀ w ∈ ws, 1 ≤ w.length) ∧ (ch g).Nodup ∧ g.length ≤ 10 ∧ ss.length ≤ 900 ∧ r.length ≤ 1000 ∧ AskN g ws r a b ∧ ∀ p H', Same H H' → H' p = some (.tup [.int a, b]) → Q (.ref p) H'
def spRat (C : Addr) : Sp := fun vs H Q _ => ∃ (x : Addr) (n : Nat) (v : V) (g : Str) (ws ss ls : List Str), vs = [.ref x, .int (n : Int), v] ∧ BandAt C H x g ws ss ls ∧ g.length ≤ 10 ∧ ss.length ≤ 900 ∧ n ≤ 1000 ∧ Thing H v ∧ (∀ k : Int, v = .int k → k < 0 ∨ cntF g ws ss n "" ≤ k) ∧ ∀ p H', Same H H' → H' p = some (.tup [.int 3, .bl true]) → Q (.ref p) H'
def spRow13 (K : PySem.W.Frag) : Sp := fun vs H Q _ => ∃ (a b : Addr) (ns : List Int) (g : Str) (ws : List Str), vs = [.ref a, .str g, .ref b] ∧ SqL K H a (ns.map V.int) ∧ SqL K H b (ws.map V.str) ∧ Signs g ∧ ws.length ≤ 6 ∧ (∀ w ∈ ws, Word g w) ∧
  ∀ (r : Str) (H' : Hp), Same H H' → bears ws r = false → (∀ c ∈ ch r, c ∈ ch g) → r.length ≤ 153 → Q (.str r) H'
def spCounts13 (K : PySem.W.Frag) : Sp := fun vs H Q _ => ∃ (g : Str) (lw : Addr) (n : Nat) (ws : List Str), vs = [.str g, .ref lw, .int (n : Int)] ∧ H lw = some (.lst (ws.map V.str)) ∧ ws.length ≤ 6 ∧ (∀ w ∈ ws, 1 ≤ w.length) ∧ (∀ w ∈ ws, w.length ≤ 5) ∧ g.length ≤ 10 ∧ n ≤ 1000 ∧
  ∀ (l : Addr) (ts : List Addr) (H' : Hp), Same H H' → H l = none → H' l = some (.lst (ts.map V.ref)) → ts.length = n + 1 → (∀ i t, ts[i]? = some t → H' t = some (.dK (cRow g ws (keysS ws "" ws) i))) → Q (.ref l) H'
def spDue13 (K : PySem.W.Frag) : Sp := fun vs H Q _ => ∃ (r g : Str) (lw : Addr) (ws : List Str) (k : Nat), vs = [.str r, .str g, .ref lw] ∧ H lw = some (.lst (ws.map V.str)) ∧ ws.length ≤ 6 ∧ (∀ w ∈ ws, 1 ≤ w.length) ∧ (∀ w ∈ ws, w.length ≤ 5) ∧ (ch g).Nodup ∧ g.length ≤ 10 ∧ r.length ≤ 1000 ∧ (gdB g ws "" r.length)[k]? = some r ∧ ∀ H', Same H H' → Q (.int (k : Int)) H'
end Sx
namespace L2
open PySem PySem.Spec PyProof.Rows
/-- whole numbers, written out -/
def litInts : List Expr → Option (List Int)
  | [] => some []
  | .Constant (.int i) _ _ :: es => (litInts es).map (i :: ·)
  | _ :: _ => none
def tInts : List Int → TA
  | [] => tNil
  | i :: is => tCons (tC (.int i)) (tInts is)
/-- pairs of them -/
def litLitP : List Expr → Option (List (Int × Int))
  | [] => some []
  | .Tuple [.Constant (.int i) _ _, .Constant (.int j) _ _] _ _ :: es => (litLitP es).map ((i, j) :: ·)
  | _ :: _ => none
def tLitP : List (Int × Int) → TA
  | [] => tNil
  | p :: ps => tCons (tTup (tCons (tC (.int p.1)) (tCons (tC (.int p.2)) tNil))) (tLitP ps)
end L2

set_option Elab.async false
set_option linter.all false
set_option maxRecDepth 100000
set_option maxHeartbeats 4000000
namespace L2
open PySem PySem.Spec PyProof.Rows
/-! ### things alike by depth -/
/-- what a thing is, down to its flat parts -/
inductive Dat where
  | at (v : V)
  | tup (ds : List Dat)
  | lst (ds : List Dat)
def okLeaf : V → Bool
  | .non => true
  | .bl _ => true
  | .int _ => true
  | .str _ => true
  | _ => false
mutual
def Rds (K : PySem.W.Frag) (H : Hp) : Dat → V → Prop
  | .at x, v => v = x ∧ okLeaf x = true
  | .tup ds, v => ∃ a xs, v = .ref a ∧ H a = some (.tup xs) ∧ RdsL K H ds xs
  | .lst ds, v => ∃ a xs, v = .ref a ∧ Rd H a (.lst xs) ∧ RdsL K H ds xs
def RdsL (K : PySem.W.Frag) (H : Hp) : List Dat → List V → Prop
  | [], xs => xs = []
  | d :: ds, xs => ∃ v vs, xs = v :: vs ∧ Rds K H d v ∧ RdsL K H ds vs
end
mutual
def dep : Dat → Nat
  | .at _ => 0
  | .tup ds => depL ds + 1
  | .lst ds => depL ds + 1
def depL : List Dat → Nat
  | [] => 0
  | d :: ds => max (dep d) (depL ds)
end
section
variable {K : PySem.W.Frag} {H : Hp}
theorem RdsL.both : ∀ (ds : List Dat) (xs ys : List V), RdsL K H ds xs → RdsL K H ds ys → xs.length = ys.length ∧ ∀ (j : Nat) (x y : V), xs[j]? = some x → ys[j]? = some y → ∃ d, dep d ≤ depL ds ∧ Rds K H d x ∧ Rds K H d y
  | [], xs, ys, h1, h2 => by
    have e1 : xs = [] := h1
    have e2 : ys = [] := h2
    subst e1 e2
    exact ⟨rfl, fun j x y h => by simp at h⟩
  | d :: ds, xs, ys, h1, h2 => by
    obtain ⟨v, vs, rfl, hv, hvs⟩ := (show ∃ v vs, xs = v :: vs ∧ Rds K H d v ∧ RdsL K H ds vs from h1)
    obtain ⟨w, ws, rfl, hw, hws⟩ := (show ∃ v vs, ys = v :: vs ∧ Rds K H d v ∧ RdsL K H ds vs from h2)
    obtain ⟨hl, hg⟩ := RdsL.both ds vs ws hvs hws
    refine ⟨by rw [List.length_cons, List.length_cons, hl], fun j x y hx hy => ?_⟩
    cases j with
    | zero =>
      cases hx
      cases hy
      exact ⟨d, Nat.le_max_left _ _, hv, hw⟩
    | succ j =>
      obtain ⟨e, h1, h2, h3⟩ := hg j x y hx hy
      exact ⟨e, Nat.le_trans h1 (Nat.le_max_right _ _), h2, h3⟩
theorem leaf_flat {v : V} (h : okLeaf v = true) : flatV v = true := by
  cases v with
  | non => rfl
  | bl _ => rfl
  | int _ => rfl
  | str _ => rfl
  | _ => cases h
theorem leaf_same {v : V} (h : okLeaf v = true) : eqV v v = true := by
  cases v with
  | non => rfl
  | bl b => cases b <;> rfl
  | int i => show (i == i) = true; simp
  | str z => show (z == z) = true; simp
  | _ => cases h
end
section
variable {X : Cx} {pins : List (Addr × Obj)} {σ : St} {H : Hp} {s : Shared}
theorem all_yes' (n : Nat) : (List.range n).all (fun _ => true) = true := by simp
theorem eqAt_D (I : Inv X pins σ H s) : ∀ (n : Nat) (d : Dat), dep d ≤ n → ∀ (x y : V) (u v : Value) (A : Around), A.units + n < cLine → Rds X.K H d x → Rds X.K H d y → RelV x u → RelV y v → SeqAt.EqAt A s u v true := by
  intro n
  induction n with
  | zero =>
    intro d hd x y u v A hA hx hy ru rv
    cases d with
    | «at» z =>
      obtain ⟨rfl, hz⟩ := (show x = z ∧ okLeaf z = true from hx)
      obtain ⟨rfl, _⟩ := (show y = x ∧ okLeaf x = true from hy)
      have := eqAt_V (A := A) (s := s) ru rv (leaf_flat hz) (leaf_flat hz)
      rw [leaf_same hz] at this
      exact this
    | tup ds => exact absurd hd (by show ¬ depL ds + 1 ≤ 0; omega)
    | lst ds => exact absurd hd (by show ¬ depL ds + 1 ≤ 0; omega)
  | succ n ih =>
    intro d hd x y u v A hA hx hy ru rv
    have item : ∀ (xs ys : List V) (its its2 : List Value) (ds : List Dat), depL ds ≤ n → RdsL X.K H ds xs → RdsL X.K H ds ys → Vals xs its → Vals ys its2 → ∀ j (h1 : j < its.toArray.size) (h2 : j < its2.toArray.size), SeqAt.EqAt A.in1 s its.toArray[j] its2.toArray[j] true := by
      intro xs ys its its2 ds hds h1 h2 r1 r2 j hj1 hj2
      obtain ⟨hl, hg⟩ := RdsL.both ds xs ys h1 h2
      have e1 := r1.length
      have e2 := r2.length
      have hj1' : j < its.length := by simpa using hj1
      have hj2' : j < its2.length := by simpa using hj2
      obtain ⟨x', hx'⟩ : ∃ x', xs[j]? = some x' := ⟨_, List.getElem?_eq_getElem (by omega)⟩
      obtain ⟨y', hy'⟩ : ∃ y', ys[j]? = some y' := ⟨_, List.getElem?_eq_getElem (by omega)⟩
      obtain ⟨u1, q1, w1⟩ := r1.get hx'
      obtain ⟨u2, q2, w2⟩ := r2.get hy'
      have g1 : its.toArray[j] = u1 := by
        have : its[j]? = some its[j] := by simp [hj1']
        rw [this] at q1
        simpa using Option.some.inj q1
      have g2 : its2.toArray[j] = u2 := by
        have : its2[j]? = some its2[j] := by simp [hj2']
        rw [this] at q2
        simpa using Option.some.inj q2
      obtain ⟨d', hd', rx', ry'⟩ := hg j x' y' hx' hy'
      rw [g1, g2]
      exact ih d' (by omega) x' y' u1 u2 A.in1 (by show A.units + 1 + n < cLine; omega) rx' ry' w1 w2
    cases d with
    | «at» z =>
      obtain ⟨rfl, hz⟩ := (show x = z ∧ okLeaf z = true from hx)
      obtain ⟨rfl, _⟩ := (show y = x ∧ okLeaf x = true from hy)
      have := eqAt_V (A := A) (s := s) ru rv (leaf_flat hz) (leaf_flat hz)
      rw [leaf_same hz] at this
      exact this
    | tup ds =>
      obtain ⟨a, xs, rfl, ha, hxs⟩ := (show ∃ a xs, x = .ref a ∧ H a = some (.tup xs) ∧ RdsL X.K H ds xs from hx)
      obtain ⟨b, ys, rfl, hb, hys⟩ := (show ∃ a xs, y = .ref a ∧ H a = some (.tup xs) ∧ RdsL X.K H ds xs from hy)
      cases ru
      cases rv
      by_cases e : a = b
      · subst e
        exact SeqAt.EqAt.same _
      · obtain ⟨its, r1, p1, _⟩ := I.tuple (SqT.of ha)
        obtain ⟨its2, r2, p2, _⟩ := I.tuple (SqT.of hb)
        have hl := (RdsL.both ds xs ys hxs hys).1
        have e1 := r1.length
        have e2 := r2.length
        have R := SeqAt.RcAt.tuples (A := A) (e := fun _ => true) p1 p2 (by omega) (item xs ys its its2 ds (by have : depL ds + 1 ≤ n + 1 := hd; omega) hxs hys r1 r2)
        rw [all_yes', show (its.toArray.size == its2.toArray.size) = true by simp only [List.size_toArray, beq_iff_eq]; omega] at R
        exact SeqAt.EqAt.of_refs e R
    | lst ds =>
      obtain ⟨a, xs, rfl, ha, hxs⟩ := (show ∃ a xs, x = .ref a ∧ Rd H a (.lst xs) ∧ RdsL X.K H ds xs from hx)
      obtain ⟨b, ys, rfl, hb, hys⟩ := (show ∃ a xs, y = .ref a ∧ Rd H a (.lst xs) ∧ RdsL X.K H ds xs from hy)
      cases ru
      cases rv
      by_cases e : a = b
      · subst e
        exact SeqAt.EqAt.same _
      · obtain ⟨its, r1, p1, _⟩ := I.list (.inl ha)
        obtain ⟨its2, r2, p2, _⟩ := I.list (.inl hb)
        have hl := (RdsL.both ds xs ys hxs hys).1
        have e1 := r1.length
        have e2 := r2.length
        have R := SeqAt.RcAt.lists (A := A) (e := fun _ => true) p1.isList p2.isList (by simp only [List.size_toArray]; omega) (by omega) (item xs ys its its2 ds (by have : depL ds + 1 ≤ n + 1 := hd; omega) hxs hys r1 r2)
        rw [all_yes'] at R
        exact SeqAt.EqAt.of_refs e R
/-- the parts of two things alike -/
theorem items_D (I : Inv X pins σ H s) {A : Around} {n : Nat} (hA : A.units + n < cLine) {xs ys : List V} {its its2 : List Value} {ds : List Dat} (hds : depL ds ≤ n) (h1 : RdsL X.K H ds xs) (h2 : RdsL X.K H ds ys) (r1 : Vals xs its) (r2 : Vals ys its2) :
    ∀ j (h1 : j < its.toArray.size) (h2 : j < its2.toArray.size), SeqAt.EqAt A s its.toArray[j] its2.toArray[j] true := by
  intro j hj1 hj2
  obtain ⟨hl, hg⟩ := RdsL.both ds xs ys h1 h2
  have e1 := r1.length
  have e2 := r2.length
  have hj1' : j < its.length := by simpa using hj1
  have hj2' : j < its2.length := by simpa using hj2
  obtain ⟨x', hx'⟩ : ∃ x', xs[j]? = some x' := ⟨_, List.getElem?_eq_getElem (by omega)⟩
  obtain ⟨y', hy'⟩ : ∃ y', ys[j]? = some y' := ⟨_, List.getElem?_eq_getElem (by omega)⟩
  obtain ⟨u1, q1, w1⟩ := r1.get hx'
  obtain ⟨u2, q2, w2⟩ := r2.get hy'
  have g1 : its.toArray[j] = u1 := by
    have : its[j]? = some its[j] := by simp [hj1']
    rw [this] at q1
    simpa using Option.some.inj q1
  have g2 : its2.toArray[j] = u2 := by
    have : its2[j]? = some its2[j] := by simp [hj2']
    rw [this] at q2
    simpa using Option.some.inj q2
  obtain ⟨d', hd', rx', ry'⟩ := hg j x' y' hx' hy'
  rw [g1, g2]
  exact eqAt_D I n d' (by omega) x' y' u1 u2 A hA rx' ry' w1 w2
/-- == and != of two lists, or two tuples, that are alike by depth -/
def rDp (K : PySem.W.Frag) (b : Bool) : R2 := fun x y H Q => ∃ ds, depL ds ≤ 50 ∧ ((Rds K H (.lst ds) x ∧ Rds K H (.lst ds) y) ∨ (Rds K H (.tup ds) x ∧ Rds K H (.tup ds) y)) ∧ Q (.bl b) H
theorem op_eqDp (hu : X.A.units + 60 < cLine) : OpR X (compareOp .Eq) (rDp X.K true) := by
  intro pins s σ H x y v u Q I rx ry h
  obtain ⟨ds, hd, h, q⟩ := h
  rcases h with ⟨h1, h2⟩ | ⟨h1, h2⟩
  · obtain ⟨a, xs, rfl, ha, hxs⟩ := (show ∃ a xs, x = .ref a ∧ Rd H a (.lst xs) ∧ RdsL X.K H ds xs from h1)
    obtain ⟨b, ys, rfl, hb, hys⟩ := (show ∃ a xs, y = .ref a ∧ Rd H a (.lst xs) ∧ RdsL X.K H ds xs from h2)
    cases rx
    cases ry
    obtain ⟨its, r1, p1, _⟩ := I.list (.inl ha)
    obtain ⟨its2, r2, p2, _⟩ := I.list (.inl hb)
    have hl := (RdsL.both ds xs ys hxs hys).1
    have e1 := r1.length
    have e2 := r2.length
    refine SeqAt.eq_listAt (e := fun _ => true) p1.isList p2.isList (by simp only [List.size_toArray]; omega) (by omega) (items_D I (A := X.A.in1) (n := 50) (by show X.A.units + 1 + 50 < cLine; omega) hd hxs hys r1 r2) ?_
    rw [all_yes']
    exact ⟨.bl true, H, I, rfl, q⟩
  · obtain ⟨a, xs, rfl, ha, hxs⟩ := (show ∃ a xs, x = .ref a ∧ H a = some (.tup xs) ∧ RdsL X.K H ds xs from h1)
    obtain ⟨b, ys, rfl, hb, hys⟩ := (show ∃ a xs, y = .ref a ∧ H a = some (.tup xs) ∧ RdsL X.K H ds xs from h2)
    cases rx
    cases ry
    obtain ⟨its, r1, p1, _⟩ := I.tuple (SqT.of ha)
    obtain ⟨its2, r2, p2, _⟩ := I.tuple (SqT.of hb)
    have hl := (RdsL.both ds xs ys hxs hys).1
    have e1 := r1.length
    have e2 := r2.length
    refine SeqAt.eq_tupleAt (e := fun _ => true) p1 p2 (by omega) (items_D I (A := X.A.in1) (n := 50) (by show X.A.units + 1 + 50 < cLine; omega) hd hxs hys r1 r2) ?_
    rw [all_yes', show (its.toArray.size == its2.toArray.size) = true by simp only [List.size_toArray, beq_iff_eq]; omega]
    exact ⟨.bl true, H, I, rfl, q⟩
end
end L2

set_option Elab.async false
set_option linter.all false
set_option maxRecDepth 100000
set_option maxHeartbeats 4000000
namespace L2
open PySem PySem.Spec PyProof.Rows Sx
section
variable {X : Cx}
theorem hu6_of {A : Around} {k : Nat} (hr : Room k A) : A.units + 60 < cLine := Nat.lt_of_le_of_lt (Nat.add_le_add_left (by decide : 60 ≤ 64) _) hr.units
end
end L2
namespace Bs
open PySem L2 AC
section
variable {g : Str} {ws ss ls : List Str} {p : Str}
def blkF (ws ss : List Str) (p : Str) (r : Str) : Option (Str × Str) := if bears ws (p ++ r) = true then none else some (r, lend ss (p ++ r))
/-- what is due, row by row -/
def dueF (ws ss ls : List Str) (p : Str) (r : Str) : Option (Str × Str) := if bears ws (p ++ r) = true then none else if lend ss (p ++ r) ∈ ls then some (r, lend ss (p ++ r)) else none
end
end Bs
namespace L2
open PySem Bs
/-- the parts of told blocks -/
def dPair (q : Str × Str) : Dat := .tup [.at (.str q.1), .at (.str q.2)]
end L2
namespace Sx
open PySem L2 Bs
def spCLE (C CN : Addr) : Sp := fun vs H Q E => ∃ (x : Addr) (v : V) (g : Str) (ws ss ls : List Str), vs = [.ref x, v] ∧ BandAt C H x g ws ss ls ∧ Thing H v ∧ ((∃ p, v = .str p ∧ p ∈ ls ∧ Q .non H) ∨ ((∀ p ∈ ls, v ≠ .str p) ∧ NoPl CN v H E))
def spBlocksE (C CN : Addr) : Sp := fun vs H Q E => ∃ (x : Addr) (v : V) (n : Nat) (g : Str) (ws ss ls : List Str), vs = [.ref x, v, .int (n : Int)] ∧ BandAt C H x g ws ss ls ∧ Thing H v ∧ g.length ^ n ≤ 100 ∧ n ≤ 10 ∧ 2 ≤ g.length ∧ g.length ≤ 10 ∧
  ((∃ p, v = .str p ∧ p ∈ ls ∧ ∀ (l' : Addr) (rs' : List Addr) (H' : Hp), Same H H' → H l' = none → RowsAt H' l' rs' (blocksOf g ws ss ls n p) → Q (.ref l') H') ∨ ((∀ p ∈ ls, v ≠ .str p) ∧ NoPl CN v H E))
def spLast21 (K : PySem.W.Frag) : Sp := fun vs H Q _ => ∃ (sa wa : Addr) (g : Str) (ws ss : List Str), vs = [.ref sa, .ref wa, .str g] ∧ SqL K H sa (ss.map V.str) ∧ SqL K H wa (ws.map V.str) ∧ ("" : Str) ∈ ss ∧ ss.length ≤ 900 ∧ ws.length ≤ 100 ∧ g.length ≤ 10 ∧ (∀ p ∈ ss, p.length ≤ 100) ∧
  ∀ (l : Addr) (H' : Hp), Same H H' → H l = none → H' l = some (.lst ((rounds ss (rowOf g ws ss) ss.length).map V.str)) → Q (.ref l) H'
def spDue21 (K : PySem.W.Frag) : Sp := fun vs H Q _ => ∃ (p : Str) (n : Nat) (g : Str) (wa la sa : Addr) (ws ls ss : List Str), vs = [.str p, .int (n : Int), .str g, .ref wa, .ref la, .ref sa] ∧ SqL K H wa (ws.map V.str) ∧ SqL K H la (ls.map V.str) ∧ SqL K H sa (ss.map V.str) ∧ ("" : Str) ∈ ss ∧ ws.length ≤ 100 ∧ p.length ≤ 100 ∧ g.length ^ n ≤ 100 ∧ n ≤ 10 ∧ 2 ≤ g.length ∧ g.length ≤ 10 ∧
  ∀ (l : Addr) (rs : List Addr) (H' : Hp), Same H H' → H l = none → RowsAt H' l rs ((bck g n).filterMap (dueF ws ss ls p)) → Q (.ref l) H'
def spTexts21 : Sp := fun vs H Q _ => ∃ (l : Addr) (rs : List Addr) (qs : List (Str × Str)), vs = [.ref l] ∧ RowsAt H l rs qs ∧ ∀ H', Same H H' → Q (.bl true) H'
def spRef21 (C : Addr) : Sp := fun vs H Q _ => ∃ (x : Addr) (v : V) (n : Nat) (g : Str) (ws ss ls : List Str), vs = [.ref x, v, .int (n : Int)] ∧ BandAt C H x g ws ss ls ∧ Thing H v ∧ (∀ a, v = .ref a → H a ≠ some (.dK [])) ∧ g.length ^ n ≤ 100 ∧ n ≤ 10 ∧ 2 ≤ g.length ∧ g.length ≤ 10 ∧ (∀ p ∈ ls, v ≠ .str p) ∧ ∀ H', Same H H' → Q (.bl true) H'
end Sx

set_option Elab.async false
set_option linter.all false
set_option maxRecDepth 100000
set_option maxHeartbeats 4000000
namespace L2
open PySem PySem.Spec PyProof.Rows Sx
section
variable {X : Cx}
end
theorem RdsL.of_idx {K : PySem.W.Frag} {H : Hp} : ∀ (ds : List Dat) (ys : List V), ds.length = ys.length → (∀ (i : Nat) (d : Dat) (y : V), ds[i]? = some d → ys[i]? = some y → Rds K H d y) → RdsL K H ds ys
  | [], [], _, _ => rfl
  | [], _ :: _, h, _ => by simp at h
  | _ :: _, [], h, _ => by simp at h
  | d :: ds, y :: ys, h, r => ⟨y, ys, rfl, r 0 d y rfl rfl, RdsL.of_idx ds ys (by simpa using h) fun i d' y' h1 h2 => r (i + 1) d' y' h1 h2⟩
/-- a comprehension whose items are told one by one, with what stands in the heap -/
theorem comp_idx {J : It} {Ok : Hp → Prop} {xs : List V} {l : Addr} {σf : St} {te : TE} {H : Hp} {Q : Hp → Prop} (R : Nat → V → Hp → Prop) (hm : ∀ i y H1 H2 ys, R i y H1 → H1 l = some (.lst ys) → (∀ b o, H1 b = some o → b ≠ l → H2 b = some o) → R i y H2) (hJ : ItIs J Ok xs) (hl : H l = none) (hz : xs.length ≤ sizeLine) (hOk : ∀ H', Same H H' → Ok H')
    (he : ∀ i x H3 ys Q', xs[i]? = some x → Same H H3 → H3 l = some (.lst ys) → (∀ y H', Same H3 H' → R i y H' → Q' y H') → te (some x :: σf) H3 Q')
    (hd : ∀ ys H', Same H H' → H' l = some (.lst ys) → ys.length = xs.length → (∀ i y, ys[i]? = some y → R i y H') → Q H') : CompW J l σf tYes te H Q := by
  refine ⟨fun i m vs H2 => m = xs.length - i ∧ i ≤ xs.length ∧ Same H H2 ∧ H2 l = some (.lst vs) ∧ vs.length = i ∧ ∀ j y, vs[j]? = some y → R j y H2, ⟨xs.length, by simp, Nat.zero_le _, Same.upd hl, upd_same, rfl, fun j y h => by simp at h⟩, ?_⟩
  rintro i m vs H2 ⟨rfl, hi, s2, h2, hvl, hR⟩
  refine ⟨h2, ?_⟩
  by_cases hlt : i < xs.length
  · refine .inr ⟨hJ.go i H2 (hOk _ s2) hlt, by rw [hvl]; omega, fun x H3 y => ?_⟩
    obtain ⟨e, hx⟩ := hJ.yld i H2 x H3 (hOk _ s2) hlt y
    subst e
    unfold tYes
    dsimp only
    rw [if_pos rfl]
    refine he i x _ vs _ hx s2 h2 fun y H5 s5 hr5 => ⟨s5 _ _ h2, xs.length - (i + 1), by omega, rfl, hlt, fun b o e => ?_, upd_same, by rw [List.length_append, hvl]; rfl, fun j z hj => ?_⟩
    · rw [upd_ne (ne_of_none e hl)]
      exact s5 _ _ (s2 _ _ e)
    · have h5l := s5 _ _ h2
      have kp : ∀ b o, H5 b = some o → b ≠ l → (upd H5 l (.lst (vs ++ [y]))) b = some o := fun b o e hb => by rw [upd_ne hb]; exact e
      by_cases hji : j < vs.length
      · rw [List.getElem?_append_left hji] at hj
        exact hm j z H5 _ _ (hm j z _ _ _ (hR j z hj) h2 fun b o e _ => s5 _ _ e) h5l kp
      · rw [List.getElem?_append_right (by omega)] at hj
        have hj0 : j - vs.length = 0 := by
          have := (List.getElem?_eq_some_iff.mp hj).1
          simp at this
          omega
        rw [hj0] at hj
        cases hj
        have : j = i := by omega
        rw [this]
        exact hm i y H5 _ _ hr5 h5l kp
  · have e : i = xs.length := by omega
    subst e
    exact .inl ⟨hJ.stop H2 (hOk _ s2), hd vs H2 s2 h2 hvl hR⟩
end L2

set_option Elab.async false
set_option linter.all false
set_option maxRecDepth 100000
set_option maxHeartbeats 4000000
namespace L2
open PySem PySem.Spec PyProof.Rows Sx
section
variable {X : Cx}
end
end L2

set_option Elab.async false
set_option linter.all false
set_option maxRecDepth 100000
set_option maxHeartbeats 4000000
namespace L2
open PySem PySem.Spec PyProof.Rows Sx Bs
/-! ### things read by depth, and what is new of them -/
theorem rd_same {H H' : Hp} {a : Addr} {o : HO} (s : Same H H') (h : Rd H a o) : Rd H' a o := by
  rcases h with e | ⟨z, e⟩
  · exact .inl (s _ _ e)
  · exact .inr ⟨z, s _ _ e⟩
theorem Same.seqT {K : PySem.W.Frag} {H H' : Hp} {a : Addr} {xs : List V} (s : Same H H') (h : SqT K H a xs) : SqT K H' a xs := by
  rcases h with e | e
  · exact .inl (rd_same s e)
  · exact .inr e
mutual
theorem Rds.same {K : PySem.W.Frag} {H H' : Hp} (s : Same H H') : ∀ (d : Dat) (v : V), Rds K H d v → Rds K H' d v
  | .at _, _, h => h
  | .tup ds, _, h => by
    obtain ⟨a, xs, e, hs, hl⟩ := h
    exact ⟨a, xs, e, s _ _ hs, RdsL.same s ds xs hl⟩
  | .lst ds, _, h => by
    obtain ⟨a, xs, e, hs, hl⟩ := h
    exact ⟨a, xs, e, rd_same s hs, RdsL.same s ds xs hl⟩
theorem RdsL.same {K : PySem.W.Frag} {H H' : Hp} (s : Same H H') : ∀ (ds : List Dat) (xs : List V), RdsL K H ds xs → RdsL K H' ds xs
  | [], _, h => h
  | d :: ds, _, h => by
    obtain ⟨v, vs, e, hv, hl⟩ := h
    exact ⟨v, vs, e, Rds.same s d v hv, RdsL.same s ds vs hl⟩
end
theorem RdsL.len {K : PySem.W.Frag} {H : Hp} : ∀ {ds : List Dat} {xs : List V}, RdsL K H ds xs → xs.length = ds.length
  | [], xs, h => by
    have e : xs = [] := h
    subst e
    rfl
  | d :: ds, _, h => by
    obtain ⟨v, vs, rfl, _, hl⟩ := h
    rw [List.length_cons, List.length_cons, RdsL.len hl]
theorem RdsL.get {K : PySem.W.Frag} {H : Hp} : ∀ {ds : List Dat} {xs : List V}, RdsL K H ds xs → ∀ (i : Nat) (x : V), xs[i]? = some x → ∃ d, ds[i]? = some d ∧ Rds K H d x
  | [], _, h, i, x, e => by
    rw [show _ = [] from h] at e
    simp at e
  | d :: ds, _, h, i, x, e => by
    obtain ⟨v, vs, rfl, hv, hl⟩ := h
    cases i with
    | zero => cases e; exact ⟨d, rfl, hv⟩
    | succ i => exact RdsL.get hl i x e
theorem RdsL.at {K : PySem.W.Frag} {H : Hp} {ds : List Dat} {xs : List V} (h : RdsL K H ds xs) {i : Nat} {d : Dat} (e : ds[i]? = some d) : ∃ x, xs[i]? = some x ∧ Rds K H d x := by
  have hi : i < ds.length := (List.getElem?_eq_some_iff.mp e).1
  have hx : xs[i]? = some (xs[i]'(by rw [h.len]; exact hi)) := List.getElem?_eq_getElem _
  obtain ⟨d', e', r⟩ := h.get i _ hx
  rw [e] at e'
  cases e'
  exact ⟨_, hx, r⟩
/-- what is new in H' -/
def newIn (H H' : Hp) : Hp := fun a => match H a with
  | none => H' a
  | some _ => none
theorem newIn_sub (H H' : Hp) : Same (newIn H H') H' := fun a o e => by
  unfold newIn at e
  cases h : H a with
  | none => rw [h] at e; exact e
  | some z => rw [h] at e; cases e
theorem newIn_old {H0 H H' : Hp} (s : Same H0 H) : Same (newIn H H') (newIn H0 H') := fun a o e => by
  unfold newIn at e ⊢
  cases h : H a with
  | none => rw [h] at e; rw [none_of s h]; exact e
  | some z => rw [h] at e; cases e
theorem newIn_same {H H' H2 : Hp} (s : Same H' H2) : Same (newIn H H') (newIn H H2) := fun a o e => by
  unfold newIn at e ⊢
  cases h : H a with
  | none => rw [h] at e; exact s _ _ e
  | some z => rw [h] at e; cases e
theorem newIn_keep {H H1 H2 : Hp} {l : Addr} {o : HO} (hl : H l = some o) (kp : ∀ b o, H1 b = some o → b ≠ l → H2 b = some o) : Same (newIn H H1) (newIn H H2) := fun a oo e => by
  unfold newIn at e ⊢
  cases h : H a with
  | none =>
    rw [h] at e
    exact kp _ _ e fun z => by rw [z, hl] at h; cases h
  | some z => rw [h] at e; cases e
theorem newIn_at {H H' : Hp} {a : Addr} {o : HO} (h : H a = none) (e : H' a = some o) : newIn H H' a = some o := by
  unfold newIn
  rw [h]
  exact e
/-- a comprehension whose items are new things, each read by depth -/
theorem comp_new {K : PySem.W.Frag} {J : It} {Ok : Hp → Prop} {xs : List V} {l : Addr} {σf : St} {te : TE} {H : Hp} {Q : Hp → Prop} (ds : List Dat) (hJ : ItIs J Ok xs) (hl : H l = none) (hz : xs.length ≤ sizeLine) (hdl : ds.length = xs.length) (hOk : ∀ H', Same H H' → Ok H')
    (he : ∀ (i : Nat) (x : V) (d : Dat) H3 Q', xs[i]? = some x → ds[i]? = some d → Same H H3 → (∀ y H', Same H3 H' → Rds K (newIn H3 H') d y → Q' y H') → te (some x :: σf) H3 Q')
    (hd : ∀ H', Same H H' → Rds K (newIn H H') (.lst ds) (.ref l) → Q H') : CompW J l σf tYes te H Q := by
  refine comp_idx (fun i y H' => ∀ d, ds[i]? = some d → ∃ H3 o, Same H H3 ∧ H3 l = some o ∧ Rds K (newIn H3 H') d y) ?_ hJ hl hz hOk (fun i x H3 ys Q' hx s3 h3 qq => ?_) (fun ys H' s' h' hlen hR => ?_)
  · intro i y H1 H2 ys r hl1 kp d hd'
    obtain ⟨H3, o, s3, h3, r⟩ := r d hd'
    exact ⟨H3, o, s3, h3, Rds.same (newIn_keep h3 kp) d y r⟩
  · have hi : i < ds.length := by rw [hdl]; exact (List.getElem?_eq_some_iff.mp hx).1
    refine he i x ds[i] H3 _ hx (List.getElem?_eq_getElem hi) s3 fun y H' s' r => qq y H' s' fun d hd' => ?_
    rw [List.getElem?_eq_getElem hi] at hd'
    cases hd'
    exact ⟨H3, _, s3, h3, r⟩
  · refine hd H' s' ⟨l, ys, rfl, .inl (newIn_at hl h'), RdsL.of_idx ds ys (by rw [hdl, hlen]) fun i d y hd' hy => ?_⟩
    obtain ⟨H3, o, s3, h3, r⟩ := hR i y hy d hd'
    exact Rds.same (newIn_old s3) d y r
end L2

set_option Elab.async false
set_option linter.all false
set_option maxRecDepth 100000
set_option maxHeartbeats 4000000
namespace L2
open PySem PySem.Spec PyProof.Rows Sx Bs
/-- a comprehension over pairs, with a test, whose items are new things, each read by depth -/
theorem comp_new2 {K : PySem.W.Frag} {J : It} {Ok : Hp → Prop} {xs : List V} {prs : List (V × V)} {l : Addr} {σf : St} {tt : TT} {te : TE} {H : Hp} {Q : Hp → Prop} (p : V × V → Bool) (D : V × V → Dat) (hJ : ItIs J Ok xs) (hlen : xs.length = prs.length)
    (hT : ∀ (i : Nat) (q : V × V), prs[i]? = some q → ∃ r, xs[i]? = some (.ref r) ∧ SqT K H r [q.1, q.2]) (hl : H l = none) (hz : xs.length ≤ sizeLine) (hOk : ∀ H', Same H H' → Ok H')
    (ht : ∀ q H3 Q', q ∈ prs → Same H H3 → (∀ H', Same H3 H' → Q' (p q) H') → tt (some q.1 :: some q.2 :: σf) H3 Q')
    (he : ∀ q H3 Q', q ∈ prs → p q = true → Same H H3 → (∀ y H', Same H3 H' → Rds K (newIn H3 H') (D q) y → Q' y H') → te (some q.1 :: some q.2 :: σf) H3 Q')
    (hd : ∀ H', Same H H' → Rds K (newIn H H') (.lst ((prs.filter p).map D)) (.ref l) → Q H') : CompW2 K J l σf tt te H Q := by
  refine ⟨fun i m ys H2 => m = xs.length - i ∧ i ≤ xs.length ∧ Same H H2 ∧ H2 l = some (.lst ys) ∧ ys.length = ((prs.take i).filter p).length ∧ ∀ (j : Nat) (d : Dat) (y : V), (((prs.take i).filter p).map D)[j]? = some d → ys[j]? = some y → ∃ H3 o, Same H H3 ∧ H3 l = some o ∧ Rds K (newIn H3 H2) d y,
    ⟨xs.length, by simp, Nat.zero_le _, Same.upd hl, upd_same, by simp, fun j d y h => by simp at h⟩, ?_⟩
  rintro i m ys H2 ⟨rfl, hi, s2, h2, hyl, hR⟩
  refine ⟨h2, ?_⟩
  by_cases hlt : i < xs.length
  · have hfl : ((prs.take i).filter p).length ≤ i := Nat.le_trans (List.length_filter_le _ _) (by rw [List.length_take]; omega)
    refine .inr ⟨hJ.go i H2 (hOk _ s2) hlt, by omega, fun x H3 y => ?_⟩
    obtain ⟨e, hx⟩ := hJ.yld i H2 x H3 (hOk _ s2) hlt y
    subst e
    have hq : prs[i]? = some prs[i] := List.getElem?_eq_getElem (by omega)
    obtain ⟨r, hxr, hr⟩ := hT i _ hq
    rw [hx] at hxr
    cases hxr
    have mem : prs[i] ∈ prs := List.getElem_mem _
    have tk : prs.take (i + 1) = prs.take i ++ [prs[i]] := by rw [List.take_add_one, hq]; rfl
    refine ⟨r, prs[i].1, prs[i].2, rfl, s2.seqT hr, ht prs[i] _ _ mem s2 fun H4 s4 => ?_⟩
    have hR4 : ∀ (j : Nat) (d : Dat) (y : V), (((prs.take i).filter p).map D)[j]? = some d → ys[j]? = some y → ∃ H3 o, Same H H3 ∧ H3 l = some o ∧ Rds K (newIn H3 H4) d y := fun j d y h1 h3 => by
      obtain ⟨H5, o, s5, h5, r5⟩ := hR j d y h1 h3
      exact ⟨H5, o, s5, h5, Rds.same (newIn_same s4) d y r5⟩
    cases hp : p prs[i] with
    | false =>
      rw [if_neg Bool.false_ne_true]
      have ef : (prs.take (i + 1)).filter p = (prs.take i).filter p := by rw [tk, List.filter_append]; simp [hp]
      exact ⟨xs.length - (i + 1), by omega, rfl, hlt, s2.trans s4, s4 _ _ h2, by rw [ef]; exact hyl, by rw [ef]; exact hR4⟩
    | true =>
      rw [if_pos rfl]
      have ef : (prs.take (i + 1)).filter p = (prs.take i).filter p ++ [prs[i]] := by rw [tk, List.filter_append]; simp [hp]
      have h4l := s4 _ _ h2
      refine he prs[i] _ _ mem hp (s2.trans s4) fun y H5 s5 r5 => ⟨s5 _ _ h4l, xs.length - (i + 1), by omega, rfl, hlt, fun b o e => ?_, upd_same, by rw [ef, List.length_append, List.length_append, hyl]; rfl, fun j d z hj hz' => ?_⟩
      · rw [upd_ne (ne_of_none e hl)]
        exact s5 _ _ (s4 _ _ (s2 _ _ e))
      · have kp : ∀ b o, H5 b = some o → b ≠ l → (upd H5 l (.lst (ys ++ [y]))) b = some o := fun b o e hb => by rw [upd_ne hb]; exact e
        rw [ef, List.map_append] at hj
        have hml : (((prs.take i).filter p).map D).length = ys.length := by rw [List.length_map, hyl]
        by_cases hji : j < ys.length
        · rw [List.getElem?_append_left (by omega)] at hj
          rw [List.getElem?_append_left hji] at hz'
          obtain ⟨H6, o, s6, h6, r6⟩ := hR4 j d z hj hz'
          exact ⟨H6, o, s6, h6, Rds.same ((newIn_same s5).trans (newIn_keep h6 kp)) d z r6⟩
        · rw [List.getElem?_append_right (by omega)] at hj hz'
          have hj0 : j - ys.length = 0 := by
            have := (List.getElem?_eq_some_iff.mp hz').1
            simp at this
            omega
          rw [hml, hj0] at hj
          rw [hj0] at hz'
          cases hj
          cases hz'
          exact ⟨H4, _, s2.trans s4, h4l, Rds.same (newIn_keep h4l kp) _ _ r5⟩
  · have e : i = xs.length := by omega
    subst e
    refine .inl ⟨hJ.stop H2 (hOk _ s2), hd H2 s2 ⟨l, ys, rfl, .inl (newIn_at hl h2), RdsL.of_idx _ ys ?_ fun j d y hj hy => ?_⟩⟩
    · rw [hlen, List.take_length] at hyl
      rw [List.length_map, hyl]
    · have hR' := hR j d y
      rw [hlen, List.take_length] at hR'
      obtain ⟨H3, o, s3, h3, r3⟩ := hR' hj hy
      exact Rds.same (newIn_old s3) d y r3
/-- the heap without an object -/
def offH (H : Hp) (x : Addr) : Hp := fun d => if d = x then none else H d
theorem off_at {H : Hp} {x d : Addr} {o : HO} (h : H d = some o) (hd : d ≠ x) : offH H x d = some o := by
  unfold offH
  rw [if_neg hd]
  exact h
theorem off_sub {H H' : Hp} {x : Addr} (kp : ∀ b o, H b = some o → b ≠ x → H' b = some o) : Same (offH H x) H' := fun d o e => by
  unfold offH at e
  by_cases hd : d = x
  · rw [if_pos hd] at e; cases e
  · rw [if_neg hd] at e; exact kp _ _ e hd
theorem rd_off {H : Hp} {x C dx : Addr} {fs : List (Str × V)} (hx : H x = some (.ins C dx fs)) {d : Addr} {o : HO} (h : Rd H d o) (ho : ∀ z, o ≠ .ins C dx z) (hf : ∀ a b, HO.frz a b ≠ .ins C dx fs) : Rd (offH H x) d o := by
  rcases h with e | ⟨z, e⟩
  · exact .inl (off_at e fun q => by rw [q, hx] at e; exact ho fs (Option.some.inj e).symm)
  · exact .inr ⟨z, off_at e fun q => by rw [q, hx] at e; exact hf _ _ (Option.some.inj e).symm⟩
theorem seq_off {K : PySem.W.Frag} {H : Hp} {x C dx : Addr} {fs : List (Str × V)} (hx : H x = some (.ins C dx fs)) {d : Addr} {ys : List V} (h : SqL K H d ys) : SqL K (offH H x) d ys := by
  rcases h with (e | ⟨o, e⟩) | e
  · exact .inl (.inl (off_at e fun z => by rw [z, hx] at e; cases e))
  · exact .inl (.inr ⟨o, off_at e fun z => by rw [z, hx] at e; cases e⟩)
  · exact .inr e
mutual
theorem Rds.off {K : PySem.W.Frag} {H : Hp} {x C dx : Addr} {fs : List (Str × V)} (hx : H x = some (.ins C dx fs)) : ∀ (d : Dat) (v : V), Rds K H d v → Rds K (offH H x) d v
  | .at _, _, h => h
  | .tup ds, _, h => by
    obtain ⟨a, xs, e, hs, hl⟩ := h
    exact ⟨a, xs, e, off_at hs (fun z => by rw [z, hx] at hs; cases hs), RdsL.off hx ds xs hl⟩
  | .lst ds, _, h => by
    obtain ⟨a, xs, e, hs, hl⟩ := h
    exact ⟨a, xs, e, rd_off hx hs (fun _ z => by cases z) (fun _ _ z => by cases z), RdsL.off hx ds xs hl⟩
theorem RdsL.off {K : PySem.W.Frag} {H : Hp} {x C dx : Addr} {fs : List (Str × V)} (hx : H x = some (.ins C dx fs)) : ∀ (ds : List Dat) (xs : List V), RdsL K H ds xs → RdsL K (offH H x) ds xs
  | [], _, h => h
  | d :: ds, _, h => by
    obtain ⟨v, vs, e, hv, hl⟩ := h
    exact ⟨v, vs, e, Rds.off hx d v hv, RdsL.off hx ds vs hl⟩
end
theorem rdsL_snoc {K : PySem.W.Frag} {H : Hp} {d : Dat} {v : V} : ∀ {ds : List Dat} {xs : List V}, RdsL K H ds xs → Rds K H d v → RdsL K H (ds ++ [d]) (xs ++ [v])
  | [], xs, h, r => by
    have e : xs = [] := h
    subst e
    exact ⟨v, [], rfl, r, rfl⟩
  | d0 :: ds, _, h, r => by
    obtain ⟨v0, vs, rfl, hv, hl⟩ := h
    exact ⟨v0, vs ++ [v], rfl, hv, rdsL_snoc hl r⟩
end L2
namespace Bs
open PySem L2 Sx
/-! ### sheets -/
def dStep (q : Str × Nat) : Dat := .tup [.at (.str q.1), .at (.int (q.2 : Int))]
def dLine (qs : List (Str × Nat)) : Dat := .lst (qs.map dStep)
def dLines (lns : List (List (Str × Nat))) : Dat := .lst (lns.map dLine)
def dStrs (hs : List Str) : Dat := .lst (hs.map fun h => .at (.str h))
def dInts (ws : List Int) : Dat := .lst (ws.map fun w => .at (.int w))
theorem rds_strs {K : PySem.W.Frag} {H : Hp} {hs : List Str} {v : V} (h : Rds K H (dStrs hs) v) : ∃ a, v = .ref a ∧ SqL K H a (hs.map V.str) := by
  obtain ⟨a, xs, rfl, hS, hl⟩ := h
  refine ⟨a, rfl, ?_⟩
  have : xs = hs.map V.str := by
    refine List.ext_getElem? fun i => ?_
    cases e : xs[i]? with
    | none =>
      have := hl.len
      rw [List.length_map] at this
      rw [List.getElem?_eq_none (by rw [List.length_map]; have := List.getElem?_eq_none_iff.mp e; omega)]
    | some x =>
      obtain ⟨d, hd, r⟩ := hl.get i x e
      rw [List.getElem?_map] at hd ⊢
      cases eh : hs[i]? with
      | none => rw [eh] at hd; cases hd
      | some z =>
        rw [eh] at hd
        cases hd
        rw [r.1]
        rfl
  rw [← this]
  exact .inl hS
theorem rds_ints {K : PySem.W.Frag} {H : Hp} {ws : List Int} {v : V} (h : Rds K H (dInts ws) v) : ∃ a, v = .ref a ∧ SqL K H a (ws.map V.int) := by
  obtain ⟨a, xs, rfl, hS, hl⟩ := h
  refine ⟨a, rfl, ?_⟩
  have : xs = ws.map V.int := by
    refine List.ext_getElem? fun i => ?_
    cases e : xs[i]? with
    | none =>
      have := hl.len
      rw [List.length_map] at this
      rw [List.getElem?_eq_none (by rw [List.length_map]; have := List.getElem?_eq_none_iff.mp e; omega)]
    | some x =>
      obtain ⟨d, hd, r⟩ := hl.get i x e
      rw [List.getElem?_map] at hd ⊢
      cases eh : ws[i]? with
      | none => rw [eh] at hd; cases hd
      | some z =>
        rw [eh] at hd
        cases hd
        rw [r.1]
        rfl
  rw [← this]
  exact .inl hS
theorem strs_rds {K : PySem.W.Frag} {H : Hp} {hs : List Str} {a : Addr} (h : H a = some (.lst (hs.map V.str))) : Rds K H (dStrs hs) (.ref a) :=
  ⟨a, _, rfl, .inl h, RdsL.of_idx _ _ (by simp) fun i d y hd hy => by
    rw [List.getElem?_map] at hd hy
    cases e : hs[i]? with
    | none => rw [e] at hd; cases hd
    | some z => rw [e] at hd hy; cases hd; cases hy; exact ⟨rfl, rfl⟩⟩
theorem ints_rds {K : PySem.W.Frag} {H : Hp} {ws : List Int} {a : Addr} (h : H a = some (.lst (ws.map V.int))) : Rds K H (dInts ws) (.ref a) :=
  ⟨a, _, rfl, .inl h, RdsL.of_idx _ _ (by simp) fun i d y hd hy => by
    rw [List.getElem?_map] at hd hy
    cases e : ws[i]? with
    | none => rw [e] at hd; cases hd
    | some z => rw [e] at hd hy; cases hd; cases hy; exact ⟨rfl, rfl⟩⟩
def stepQ (q : Str × Nat) : V × V := (.str q.1, .int (q.2 : Int))
theorem line_pairs {K : PySem.W.Frag} {H : Hp} {qs : List (Str × Nat)} {v : V} (h : Rds K H (dLine qs) v) : ∃ a xs, v = .ref a ∧ SqL K H a xs ∧ xs.length = (qs.map stepQ).length ∧ ∀ (i : Nat) (q : V × V), (qs.map stepQ)[i]? = some q → ∃ r, xs[i]? = some (.ref r) ∧ H r = some (.tup [q.1, q.2]) := by
  obtain ⟨a, xs, rfl, hS, hl⟩ := h
  refine ⟨a, xs, rfl, .inl hS, by rw [hl.len, List.length_map, List.length_map], fun i q hq => ?_⟩
  rw [List.getElem?_map] at hq
  cases e : qs[i]? with
  | none => rw [e] at hq; cases hq
  | some z =>
    rw [e] at hq
    cases hq
    obtain ⟨x, hx, r⟩ := hl.at (i := i) (d := dStep z) (by rw [List.getElem?_map, e]; rfl)
    obtain ⟨ra, ys, rfl, hT, h2⟩ := r
    obtain ⟨v1, vs, rfl, ⟨rfl, _⟩, h3⟩ := h2
    obtain ⟨v2, vs2, rfl, ⟨rfl, _⟩, h4⟩ := h3
    rw [show vs2 = [] from h4] at hT
    exact ⟨ra, hx, hT⟩
theorem step_new {K : PySem.W.Frag} {H : Hp} {r : Addr} (hr : H r = none) (q : Str × Nat) : Rds K (newIn H (upd H r (.tup [.str q.1, .int (q.2 : Int)]))) (dStep q) (.ref r) :=
  ⟨r, _, rfl, newIn_at hr upd_same, .str q.1, [.int (q.2 : Int)], rfl, ⟨rfl, rfl⟩, .int (q.2 : Int), [], rfl, ⟨rfl, rfl⟩, rfl⟩
def fldS1 (a : Addr) : List (Str × V) := [("homes", .ref a)]
def fldS2 (a b : Addr) : List (Str × V) := [("homes", .ref a), ("weights", .ref b)]
def fldS (a b c : Addr) : List (Str × V) := [("homes", .ref a), ("weights", .ref b), ("lines", .ref c)]
theorem putS1 (a : Addr) : putF "homes" (.ref a) [] = fldS1 a := rfl
theorem putS2 (a b : Addr) : putF "weights" (.ref b) (fldS1 a) = fldS2 a b := by
  show (if ("homes" : Str) = "weights" then (("homes" : Str), V.ref b) :: [] else (("homes" : Str), V.ref a) :: putF "weights" (.ref b) []) = _
  rw [if_neg (by decide +kernel)]
  rfl
theorem putS3 (a b c : Addr) : putF "lines" (.ref c) (fldS2 a b) = fldS a b c := by
  show (if ("homes" : Str) = "lines" then (("homes" : Str), V.ref c) :: [(("weights" : Str), V.ref b)] else (("homes" : Str), V.ref a) :: (if ("weights" : Str) = "lines" then (("weights" : Str), V.ref c) :: [] else (("weights" : Str), V.ref b) :: putF "lines" (.ref c) [])) = _
  rw [if_neg (by decide +kernel), if_neg (by decide +kernel)]
  rfl
theorem lookS_homes (a b c : Addr) : (fldS a b c).lookup ("homes" : Str) = some (.ref a) := by
  rw [← putS3, lookup_putF, if_neg (by decide +kernel), ← putS2, lookup_putF, if_neg (by decide +kernel), ← putS1, lookup_putF, if_pos rfl]
theorem lookS_weights (a b c : Addr) : (fldS a b c).lookup ("weights" : Str) = some (.ref b) := by
  rw [← putS3, lookup_putF, if_neg (by decide +kernel), ← putS2, lookup_putF, if_pos rfl]
theorem lookS_lines (a b c : Addr) : (fldS a b c).lookup ("lines" : Str) = some (.ref c) := by
  rw [← putS3, lookup_putF, if_pos rfl]
/-- a sheet, read by depth -/
structure SheetAt (K : PySem.W.Frag) (C : Addr) (H : Hp) (x : Addr) (hs : List Str) (ws : List Int) (lns : List (List (Str × Nat))) : Prop where
  ex : ∃ dx a b c, H x = some (.ins C dx (fldS a b c)) ∧ Rds K H (dStrs hs) (.ref a) ∧ Rds K H (dInts ws) (.ref b) ∧ Rds K H (dLines lns) (.ref c)
theorem SheetAt.same {K : PySem.W.Frag} {C : Addr} {H H' : Hp} {x : Addr} {hs : List Str} {ws : List Int} {lns : List (List (Str × Nat))} (h : SheetAt K C H x hs ws lns) (s : Same H H') : SheetAt K C H' x hs ws lns := by
  obtain ⟨dx, a, b, c, h1, h2, h3, h4⟩ := h
  exact ⟨dx, a, b, c, s _ _ h1, Rds.same s _ _ h2, Rds.same s _ _ h3, Rds.same s _ _ h4⟩
end Bs
namespace Sx
open PySem L2 Bs
def spCopied (K : PySem.W.Frag) : Sp := fun vs H Q _ => ∃ (v : V) (qs : List (Str × Nat)), vs = [v] ∧ Rds K H (dLine qs) v ∧ qs.length ≤ 10000 ∧ ∀ y H', Same H H' → Rds K (newIn H H') (dLine qs) y → Q y H'
def spSheetI (K : PySem.W.Frag) (C : Addr) : Sp := fun vs H Q _ => ∃ (x dx : Addr) (u v w : V) (hs : List Str) (ws : List Int) (lns : List (List (Str × Nat))), vs = [.ref x, u, v, w] ∧ H x = some (.ins C dx []) ∧ Rds K H (dStrs hs) u ∧ Rds K H (dInts ws) v ∧ Rds K H (dLines lns) w ∧ hs.length ≤ 10000 ∧ ws.length ≤ 10000 ∧ lns.length ≤ 10000 ∧ (∀ l ∈ lns, l.length ≤ 10000) ∧
  ∀ a b c H', H' x = some (.ins C dx (fldS a b c)) → Rds K (newIn H H') (dStrs hs) (.ref a) → Rds K (newIn H H') (dInts ws) (.ref b) → Rds K (newIn H H') (dLines lns) (.ref c) → (∀ b o, H b = some o → b ≠ x → H' b = some o) → Q .non H'
end Sx
namespace Bs
open PySem L2 Sx
/-- the desks' places of the first sheet, and their steps -/
def homesOf (ls : List Str) (f : Str → Int) : List Str := ls.filter fun p => decide (0 < f p)
def lineOf (g : Str) (ws ss ls : List Str) (n : Nat) (hs : List Str) (p : Str) : List (Str × Nat) := ((blocksOf g ws ss ls n p).filter fun q => decide (q.2 ∈ hs)).map fun q => (q.1, hs.idxOf q.2)
def dlinesOf (g : Str) (ws ss ls : List Str) (n : Nat) (hs : List Str) : List (List (Str × Nat)) := hs.map (lineOf g ws ss ls n hs)
end Bs
namespace Sx
open PySem L2 Bs
def spFirst (K : PySem.W.Frag) (C CS : Addr) : Sp := fun vs H Q _ => ∃ (x d : Addr) (many : Int) (n : Nat) (m : List (Str × Int)) (f : Str → Int) (g : Str) (ws ss ls : List Str), vs = [.ref x, .int many, .int (n : Int), .ref d] ∧ BandAt C H x g ws ss ls ∧ 2 ≤ g.length ∧ g.length ≤ 10 ∧ ss.length ≤ 900 ∧ IsRate g.length many n ∧ Rd H d (.dK (iRows m)) ∧ WtOk m ls f ∧
  ∀ (y : Addr) (H' : Hp), Same H H' → SheetAt K CS (newIn H H') y (homesOf ls f) ((homesOf ls f).map f) (dlinesOf g ws ss ls n (homesOf ls f)) → Q (.ref y) H'
end Sx
namespace L2
open PySem PySem.Spec PyProof.Rows Sx
section
variable {X : Cx}
/-- an object is of its own class -/
theorem call_isiO : CallR X (.builtin "isinstance") (fun xs H Q => ∃ a C dx fs, xs = [.ref a, .ref C] ∧ H a = some (.ins C dx fs) ∧ Cls X.K C ∧ XIsi X.K C ∧ PySem.W.mroIn X.K C (.type "object") = some true ∧ Q (.bl true) H) := by
  intro pins s σ H xs us Q I r h
  obtain ⟨a, C, dx, fs, rfl, ha, cl, y, hm, q⟩ := h
  obtain ⟨u, w', rfl, r1, r2⟩ := vals2 r
  cases r2
  exact isinst_ok I r1 (TyOf.ins ha cl y.ha y.hn y.htk hm) kit_same fun tk => ⟨.bl true, H, I.tok _, rfl, q⟩
end
end L2
namespace L2
open PySem
theorem call_isinstK {X : Cx} {K : PySem.W.Frag} (hK : X.K = K) : CallR X (.builtin "isinstance") (fun xs H Q => ∃ x T t b, xs = [x, .ty T] ∧ TyOf K H x t ∧ PySem.W.kitOne K t (.type T) = some b ∧ Q (.bl b) H) := hK ▸ call_isinst
theorem TyOf.rd {K : PySem.W.Frag} {H : Hp} {a : Addr} {xs : List V} (h : Rd H a (.lst xs)) : TyOf K H (.ref a) (.type "list") := by
  rcases h with e | ⟨o, e⟩
  · exact .lst e
  · exact .frz e
end L2

set_option Elab.async false
set_option linter.all false
set_option maxRecDepth 100000
set_option maxHeartbeats 4000000
namespace PySem
section
variable {P : Program} {W0 : World} {B : Around} {R : Result → Shared → Prop} {I : Addr} {fp wr : List Addr} {n : Nat} {Pr : Nat → Value → Prop} {St : Nat → Heap → Prop}
end
section
variable {P : Program} {W0 : World} {B : Around} {E : Value → Shared → Prop} {z : Shared}
end
end PySem
namespace L2
open PySem PySem.Spec PyProof.Rows Sx
section
variable {X : Cx} {e e2 : Expr} {te t2 : TE} {p kp pos : Pos}
/-- max(e, default=d) -/
def tMaxD (K : PySem.W.Frag) (te t2 : TE) : TE := fun σ H Q => te σ H fun x H1 => t2 σ H1 fun y H2 => ∃ a ns d, x = .ref a ∧ y = .int d ∧ SqL K H2 a (List.map V.int ns) ∧ (ns = [] → Q (.int d) H2) ∧ (∀ M, M ∈ ns → (∀ a ∈ ns, a ≤ M) → Q (.int M) H2)
end
end L2

set_option Elab.async false
set_option linter.all false
set_option maxRecDepth 100000
set_option maxHeartbeats 4000000
namespace L2
open PySem PySem.Spec PyProof.Rows Sx
section
variable {X : Cx} {e e2 : Expr} {t : TA} {t2 : TE} {p kp pos : Pos}
/-- max(e, default=d) -/
def tMaxK (K : PySem.W.Frag) (t : TA) (t2 : TE) : TE := fun σ H Q => t σ H fun vs H1 => t2 σ H1 fun y H2 => ∃ a ns d, vs = [.ref a] ∧ y = .int d ∧ SqL K H2 a (List.map V.int ns) ∧ (ns = [] → Q (.int d) H2) ∧ (∀ M, M ∈ ns → (∀ a ∈ ns, a ≤ M) → Q (.int M) H2)
end
end L2

set_option Elab.async false
set_option linter.all false
set_option maxRecDepth 100000
set_option maxHeartbeats 4000000
namespace L2
open PySem PySem.Spec PyProof.Rows Sx Bs
def tCompS2 (K : PySem.W.Frag) (wi : TI) (ix : List Nat) (tt : TT) (te : TE) (i : Nat) : TS := fun D σ H => wi σ H fun J H1 => ∀ l, H1 l = none → CompW2 K J l (pick σ ix) tt te H1 (fun H2 => D.nx (σ.set i (some (.ref l))) H2)
section
variable {X : Cx} {scope : Scope} {x x2 : Str} {ys : List Str} {ix : List Nat}
/-- name = [.. for x, x2 in ..], the name a plain local one -/
theorem ps_setComp2 {i : Nat} {y : Str} {px px2 pt py pos spos : Pos} {kt : Nat} {iter elt : Expr} {ifs : List Expr} {wi : TI} {tt : TT} {te : TE} (hc : X.calm = true) (B : BlockOk X scope x ys ix) (hN : X.N.Nodup) (hy : X.N[i]? = some y) (hyl : X.env.scope.names.lookup y = some .local) (B2 : BlockOk X scope x2 ys ix) (hne : x ≠ x2) (hi : PI X (.Tuple [.Name x px, .Name x2 px2] kt pt) iter wi)
    (ht : ∀ cl L s H ex pn, PTs (compCx X scope (x :: x2 :: ys) cl L s H ex pn) ifs tt) (he : ∀ cl L s H ex pn, PE (compCx X scope (x :: x2 :: ys) cl L s H ex pn) elt te)
    (hsw : swapsWith (.ListComp elt [⟨.Tuple [.Name x px, .Name x2 px2] kt pt, iter, ifs, 0⟩] scope pos) (some (.Name y py)) spos.line X.env = pure true := by rfl)
    (hs : ∀ v, foldedSetIterable iter X.env v = pure v := by intro _; rfl) : PS X (.Assign [.Name y py] (.ListComp elt [⟨.Tuple [.Name x px, .Name x2 px2] kt pt, iter, ifs, 0⟩] scope pos) spos) (tCompS2 X.K wi ix tt te i) := by
  intro pins s σ H D I h
  obtain ⟨cl, hclos, hcl, hcf⟩ := closureFor_ok (scope := scope) (env := X.env) (fun y hy hyf => I.ok.has y.1 (B.free y hy hyf))
  rw [exec_Assign_Name_used _ _ _ _ hsw]
  refine wpAny_bind (wpAny_standAt (wpAny_bind ?_))
  show wpAny _ X.A (do let _ ← comprehension (.ListComp elt [⟨.Tuple [.Name x px, .Name x2 px2] kt pt, iter, ifs, 0⟩] scope pos) scope X.env _ (newList []) false (eval iter X.env) (some (assign (.Name y py) X.env))) _ _ s
  refine wpAny_bind (wpAny_mono (wpAny_comprehension_free (use := some (assign (.Name y py) X.env)) (Q := fun _ s' => SP X pins D .next s') rfl hs hclos B.kind B.names
    (thn (hi pins s σ H _ I h) fun xv s1 h1 => thn h1 fun itv s2 h2 => ?_)) (fun _ s' hq => wpAny_pure (wpAny_pure hq)) fun _ _ e => e)
  obtain ⟨it, fp, tn, J, H2, e, I2, T, st2, f2, hw⟩ := h2
  subst e
  refine comp_core2 (RR := fun acc C => compPost (model X.prog X.w) X.A X.xe (some (assign (.Name y py) X.env)) (fun _ s' => SP X pins D .next s') acc C) (Qd := fun l H' => D.nx (σ.set i (some (.ref l))) H') hc B B2 hne I2 T st2 f2 hcl hcf (ht cl) (he cl) hw ?_
  intro D' L H' s' m I' hn hfree h1 h2 h3 h4 q
  show wpAny _ X.A (assign (.Name y py) X.env (.ref D')) _ _ _
  refine wpAny_assign_Name (store_ok2 I' hN hy (.inl hyl) (v := .ref D') rfl (fun s'' I'' sb => ?_) (.inr hyl))
  obtain ⟨a, hsb, ha⟩ := sb
  have hL : L ≠ a := by
    rcases ha with z | z
    · rw [z]; exact h1
    · exact (h3 y a z).symm
  refine ⟨m, hn.sameBut hsb hL, fun h' hs' => ⟨_, H', I''.turned (it := L) (t' := s''.toks) (fun b o hb e => (hs'.2 b hb).trans e) hfree h1 (.inr h2) h3 h4, q⟩⟩
/-- + of lists that may be frozen -/
def rCatR : R2 := fun x y H Q => ∃ l b xs zs, x = .ref l ∧ y = .ref b ∧ Rd H l (.lst xs) ∧ Rd H b (.lst zs) ∧ xs.length + zs.length ≤ sizeLine ∧ ∀ p, H p = none → Q (.ref p) (upd H p (.lst (xs ++ zs)))
theorem op_catR : OpR X (binaryOp .Add) rCatR := by
  intro pins s σ H x y v u Q I rx ry h
  obtain ⟨l, b, xs, zs, rfl, rfl, hH, hB, hz, q⟩ := h
  cases rx
  cases ry
  obtain ⟨z, its, n, r, e⟩ := hH.ok I.hok
  obtain ⟨z2, its2, n2, r2, e2⟩ := hB.ok I.hok
  have hl := r.length
  have hl2 := r2.length
  refine PySem.P.add_list e e2 ?_ (by rw [List.size_toArray, List.size_toArray]; omega)
  have ea : its.toArray ++ its2.toArray = (its ++ its2).toArray := by simp
  rw [ea]
  exact ⟨.ref _, _, I.lnew (t' := s.toks) (r.append r2) (by rw [List.length_append]; omega), rfl, q _ I.fresh⟩
/-- a list against the empty one -/
def rNeE (K : PySem.W.Frag) : R2 := fun x y H Q => ∃ a b xs, x = .ref a ∧ y = .ref b ∧ SqL K H a xs ∧ SqL K H b [] ∧ Q (.bl (!xs.isEmpty)) H
theorem call_sumK {K : PySem.W.Frag} (hK : X.K = K) (hc : X.calm = true) : CallR X (.builtin "sum") (fun xs H Q => ∃ p ns, xs = [.ref p] ∧ SqL K H p (List.map V.int ns) ∧ Q (.int ns.sum) H) := by
  subst hK
  exact call_sum hc
theorem pi_listK {K : PySem.W.Frag} {tg l : Expr} {tl : TE} (hK : X.K = K) (hl : PE X l tl) : PI X tg l (iList K tl) := by
  subst hK
  exact pi_list hl
theorem pe_comp2K {K : PySem.W.Frag} {px px2 pt pos : Pos} {kt : Nat} {iter elt : Expr} {ifs : List Expr} {wi : TI} {tt : TT} {te : TE} (hK : X.K = K) (hc : X.calm = true) (B : BlockOk X scope x ys ix) (B2 : BlockOk X scope x2 ys ix) (hne : x ≠ x2) (hi : PI X (.Tuple [.Name x px, .Name x2 px2] kt pt) iter wi)
    (ht : ∀ cl L s H ex pn, PTs (compCx X scope (x :: x2 :: ys) cl L s H ex pn) ifs tt) (he : ∀ cl L s H ex pn, PE (compCx X scope (x :: x2 :: ys) cl L s H ex pn) elt te)
    (hs : ∀ v, foldedSetIterable iter X.env v = pure v := by intro _; rfl) : PE X (.ListComp elt [⟨.Tuple [.Name x px, .Name x2 px2] kt pt, iter, ifs, 0⟩] scope pos) (tComp2 K wi ix tt te) := by
  subst hK
  exact pe_comp2 hc B B2 hne hi ht he hs
theorem call_list_ofK {K : PySem.W.Frag} (hK : X.K = K) : CallR X (.type "list") (fun xs H Q => ∃ p ys, xs = [.ref p] ∧ (SqL K H p ys ∨ SqT K H p ys) ∧ ∀ l, H l = none → Q (.ref l) (upd H l (.lst ys))) := by
  subst hK
  exact call_list_of
end
/-- the items whose number passes -/
def pickF {α : Type} (p : Nat → Bool) : Nat → List α → List α
  | _, [] => []
  | i, x :: xs => if p i then x :: pickF p (i + 1) xs else pickF p (i + 1) xs
theorem pickF_snoc {α : Type} (p : Nat → Bool) (x : α) : ∀ (k : Nat) (xs : List α), pickF p k (xs ++ [x]) = pickF p k xs ++ (if p (k + xs.length) then [x] else [])
  | k, [] => by
    show (if p k then x :: [] else []) = [] ++ _
    rw [List.nil_append]
    rfl
  | k, y :: xs => by
    have e : k + (y :: xs).length = k + 1 + xs.length := by rw [List.length_cons]; omega
    rw [e]
    show (if p k then y :: pickF p (k + 1) (xs ++ [x]) else pickF p (k + 1) (xs ++ [x])) = (if p k then y :: pickF p (k + 1) xs else pickF p (k + 1) xs) ++ _
    rw [pickF_snoc p x (k + 1) xs]
    cases p k <;> rfl
theorem pickF_len {α : Type} (p : Nat → Bool) : ∀ (k : Nat) (xs : List α), (pickF p k xs).length ≤ xs.length
  | _, [] => Nat.le_refl _
  | k, x :: xs => by
    have := pickF_len p (k + 1) xs
    show (if p k then x :: pickF p (k + 1) xs else pickF p (k + 1) xs).length ≤ xs.length + 1
    cases p k with
    | true => show (pickF p (k + 1) xs).length + 1 ≤ _; omega
    | false => show (pickF p (k + 1) xs).length ≤ _; omega
theorem pickF_map {α β : Type} (f : α → β) (p : Nat → Bool) : ∀ (k : Nat) (xs : List α), pickF p k (xs.map f) = (pickF p k xs).map f
  | _, [] => rfl
  | k, x :: xs => by
    show (if p k then f x :: pickF p (k + 1) (xs.map f) else pickF p (k + 1) (xs.map f)) = (if p k then x :: pickF p (k + 1) xs else pickF p (k + 1) xs).map f
    rw [pickF_map f p (k + 1) xs]
    cases p k <;> rfl
theorem pickF_sub {α : Type} (p : Nat → Bool) : ∀ (k : Nat) (xs : List α), (pickF p k xs).Sublist xs
  | _, [] => List.Sublist.refl _
  | k, x :: xs => by
    show (if p k then x :: pickF p (k + 1) xs else pickF p (k + 1) xs).Sublist (x :: xs)
    cases p k with
    | true => exact (pickF_sub p (k + 1) xs).cons₂ x
    | false => exact (pickF_sub p (k + 1) xs).cons x
theorem pickF_mem {α : Type} {p : Nat → Bool} {k : Nat} {xs : List α} {x : α} (h : x ∈ pickF p k xs) : x ∈ xs := (pickF_sub p k xs).subset h
theorem RdsL.pick {K : PySem.W.Frag} {H : Hp} (p : Nat → Bool) : ∀ (k : Nat) (ds : List Dat) (xs : List V), RdsL K H ds xs → RdsL K H (pickF p k ds) (pickF p k xs)
  | _, [], xs, h => by
    have e : xs = [] := h
    subst e
    rfl
  | k, d :: ds, _, h => by
    obtain ⟨v, vs, rfl, hv, hl⟩ := h
    have ih := RdsL.pick p (k + 1) ds vs hl
    show RdsL K H (if p k then d :: pickF p (k + 1) ds else pickF p (k + 1) ds) (if p k then v :: pickF p (k + 1) vs else pickF p (k + 1) vs)
    cases p k with
    | true => exact ⟨v, _, rfl, hv, ih⟩
    | false => exact ih
theorem RdsL.set {K : PySem.W.Frag} {H : Hp} {d : Dat} {v : V} : ∀ {ds : List Dat} {xs : List V}, RdsL K H ds xs → ∀ i : Nat, Rds K H d v → RdsL K H (ds.set i d) (xs.set i v)
  | [], xs, h, i, r => by
    have e : xs = [] := h
    subst e
    exact h
  | d0 :: ds, _, h, 0, r => by
    obtain ⟨v0, vs, rfl, hv, hl⟩ := h
    exact ⟨v, vs, rfl, r, hl⟩
  | d0 :: ds, _, h, i + 1, r => by
    obtain ⟨v0, vs, rfl, hv, hl⟩ := h
    exact ⟨v0, vs.set i v, rfl, hv, RdsL.set hl i r⟩
/-- [x for i, x in enumerate(list) if p i] -/
theorem comp_enum {K : PySem.W.Frag} {a l : Addr} {xs : List V} {σf : St} {tt : TT} {te : TE} {H : Hp} {Q : Hp → Prop} (p : Nat → Bool) (hS : SqL K H a xs) (hl : H l = none) (hz : xs.length ≤ sizeLine)
    (ht : ∀ (i : Nat) (x : V) H3 Q', xs[i]? = some x → Same H H3 → (∀ H', Same H3 H' → Q' (p i) H') → tt (some (.int (i : Nat)) :: some x :: σf) H3 Q')
    (he : ∀ (i : Nat) (x : V) H3 Q', xs[i]? = some x → Same H H3 → (∀ H', Same H3 H' → Q' x H') → te (some (.int (i : Nat)) :: some x :: σf) H3 Q')
    (hd : ∀ H', Same H H' → H' l = some (.lst (pickF p 0 xs)) → Q H') : CompW2 K (Ite K a) l σf tt te H Q := by
  refine ⟨fun i m ys H2 => m = xs.length - i ∧ i ≤ xs.length ∧ Same H H2 ∧ H2 l = some (.lst ys) ∧ ys = pickF p 0 (xs.take i), ⟨xs.length, by simp, Nat.zero_le _, Same.upd hl, upd_same, rfl⟩, ?_⟩
  rintro i m ys H2 ⟨rfl, hi, s2, h2, e2⟩
  refine ⟨h2, ?_⟩
  by_cases hlt : i < xs.length
  · refine .inr ⟨⟨xs, xs[i], s2.seq hS, List.getElem?_eq_getElem hlt⟩, ?_, fun x H3 y => ?_⟩
    · rw [e2]
      refine Nat.lt_of_le_of_lt (pickF_len p 0 _) ?_
      rw [List.length_take]
      omega
    · obtain ⟨T, xv, hT, e3, e4, y⟩ := y
      subst e3 e4
      have hx : xs[i]? = some xv := y xs (s2.seq hS)
      have s3 : Same H2 (upd H2 T (.tup [.int (i : Nat), xv])) := Same.upd hT
      have tk : xs.take (i + 1) = xs.take i ++ [xv] := by rw [List.take_add_one, hx]; rfl
      have hln : (xs.take i).length = i := by rw [List.length_take]; omega
      refine ⟨T, .int (i : Nat), xv, rfl, SqT.of upd_same, ht i xv _ _ hx (s2.trans s3) fun H4 s4 => ?_⟩
      have h4 := s4 _ _ (s3 _ _ h2)
      cases hp : p i with
      | false =>
        rw [if_neg Bool.false_ne_true]
        exact ⟨xs.length - (i + 1), by omega, rfl, hlt, (s2.trans s3).trans s4, h4, by rw [tk, pickF_snoc, hln, Nat.zero_add, hp, if_neg Bool.false_ne_true, List.append_nil]; exact e2⟩
      | true =>
        rw [if_pos rfl]
        refine he i xv _ _ hx ((s2.trans s3).trans s4) fun H5 s5 => ⟨s5 _ _ h4, xs.length - (i + 1), by omega, rfl, hlt, fun b o e => ?_, upd_same, ?_⟩
        · rw [upd_ne (ne_of_none e hl)]
          exact s5 _ _ (s4 _ _ (s3 _ _ (s2 _ _ e)))
        · rw [tk, pickF_snoc, hln, Nat.zero_add, hp, if_pos rfl, e2]
  · have e : i = xs.length := by omega
    subst e
    rw [List.take_length] at e2
    exact .inl ⟨⟨xs, s2.seq hS, Nat.le_refl _⟩, hd H2 s2 (by rw [h2, e2])⟩
/-- [list[k] for k in range(len(list)) if p k], as a pick -/
theorem pick_range {xs : List V} (p : Nat → Bool) (pv : V → Bool) (gv : V → V) (hp : ∀ i : Nat, pv (.int (0 + (i : Nat))) = p i) (hg : ∀ (i : Nat) (x : V), xs[i]? = some x → gv (.int (0 + (i : Nat))) = x) :
    (((List.range xs.length).map fun i => V.int (0 + ((i : Nat) : Int))).filter pv).map gv = pickF p 0 xs := by
  have key : ∀ m, m ≤ xs.length → (((List.range m).map fun i => V.int (0 + ((i : Nat) : Int))).filter pv).map gv = pickF p 0 (xs.take m) := by
    intro m
    induction m with
    | zero => intro _; rfl
    | succ m ih =>
      intro hm
      have hx : xs[m]? = some xs[m] := List.getElem?_eq_getElem (by omega)
      have tk : xs.take (m + 1) = xs.take m ++ [xs[m]] := by rw [List.take_add_one, hx]; rfl
      have hln : (xs.take m).length = m := by rw [List.length_take]; omega
      rw [List.range_succ, List.map_append, List.filter_append, List.map_append, ih (by omega), tk, pickF_snoc, hln, Nat.zero_add]
      congr 1
      rw [List.map_cons, List.map_nil, List.filter_cons, hp m]
      cases p m with
      | true => show [gv (.int (0 + (m : Nat)))] = [xs[m]]; rw [hg m _ hx]
      | false => rfl
  have := key xs.length (Nat.le_refl _)
  rwa [List.take_length] at this
/-- a comprehension whose items are read by depth, apart from the list itself -/
theorem comp_off {K : PySem.W.Frag} {J : It} {Ok : Hp → Prop} {xs : List V} {l : Addr} {σf : St} {te : TE} {H : Hp} {Q : Hp → Prop} (ds : List Dat) (hJ : ItIs J Ok xs) (hl : H l = none) (hz : xs.length ≤ sizeLine) (hdl : ds.length = xs.length) (hOk : ∀ H', Same H H' → Ok H')
    (he : ∀ (i : Nat) (x : V) (d : Dat) H3 zs Q', xs[i]? = some x → ds[i]? = some d → Same H H3 → H3 l = some (.lst zs) → (∀ y H', Same H3 H' → Rds K (offH H' l) d y → Q' y H') → te (some x :: σf) H3 Q')
    (hd : ∀ ys H', Same H H' → H' l = some (.lst ys) → RdsL K (offH H' l) ds ys → Q H') : CompW J l σf tYes te H Q := by
  refine comp_idx (fun i y H' => ∀ d, ds[i]? = some d → Rds K (offH H' l) d y) ?_ hJ hl hz hOk (fun i x H3 ys Q' hx s3 h3 qq => ?_) (fun ys H' s' h' hlen hR => ?_)
  · intro i y H1 H2 ys r hl1 kp d hd'
    refine Rds.same (fun b o e => ?_) d y (r d hd')
    unfold offH at e ⊢
    by_cases hb : b = l
    · rw [if_pos hb] at e; cases e
    · rw [if_neg hb] at e ⊢; exact kp _ _ e hb
  · have hi : i < ds.length := by rw [hdl]; exact (List.getElem?_eq_some_iff.mp hx).1
    refine he i x ds[i] H3 ys _ hx (List.getElem?_eq_getElem hi) s3 h3 fun y H' s' r => qq y H' s' fun d hd' => ?_
    rw [List.getElem?_eq_getElem hi] at hd'
    cases hd'
    exact r
  · exact hd ys H' s' h' (RdsL.of_idx ds ys (by rw [hdl, hlen]) fun i d y e1 e2 => hR i y e2 d e1)
theorem cut_to (xs : List V) (k : Nat) (h : k ≤ xs.length) : cutV xs none (some (k : Int)) = xs.take k := by
  unfold cutV
  have e1 : HT.sIx xs.length 0 none = 0 := rfl
  have e2 : HT.sIx xs.length xs.length (some (k : Int)) = k := by
    unfold HT.sIx
    simp only
    rw [if_neg (by omega), show min ((k : Int)).toNat xs.length = k by omega]
  rw [e1, e2]
  rfl
theorem inV_ints (y : Int) (ns : List Int) : inV (.int y) (ns.map V.int) = decide (y ∈ ns) := by
  unfold inV
  rw [List.any_map]
  induction ns with
  | nil => rfl
  | cons a l ih =>
    rw [List.any_cons, ih]
    show ((a == y) || decide (y ∈ l)) = decide (y ∈ a :: l)
    by_cases e : a = y
    · subst e; simp
    · have : (a == y) = false := beq_eq_false_iff_ne.mpr e
      rw [this, Bool.false_or]
      simp [Ne.symm e]
theorem flat_ints (ns : List Int) : (ns.map V.int).all flatV = true := List.all_eq_true.mpr fun v hv => by
  obtain ⟨i, _, rfl⟩ := List.mem_map.mp hv
  rfl
end L2
namespace Bs
open PySem L2 Sx
/-! ### splits -/
def numOk (i : Int) (n : Nat) : Bool := decide (0 ≤ i) && decide (i < (n : Int))
def stepSum (ws : List Int) (qs : List (Str × Nat)) : Int := (qs.map fun q => ws.getD q.2 0).sum
def partOk (ws : List Int) (many : Int) (qs : List (Str × Nat)) (w : Int) : Bool := !qs.isEmpty && (decide (1 ≤ w) && decide (many * w ≤ stepSum ws qs))
def chosenOf {α : Type} (ns : List Int) (l : List α) : List α := pickF (fun i => decide ((i : Int) ∈ ns)) 0 l
def othersOf {α : Type} (ns : List Int) (l : List α) : List α := pickF (fun i => !decide ((i : Int) ∈ ns)) 0 l
def twins (d t : Nat) (l : List (Str × Nat)) : List (Str × Nat) := l.flatMap fun q => if q.2 = d then [q, (q.1, t)] else [q]
def splitOk (ws : List Int) (lns : List (List (Str × Nat))) (many desk : Int) (ns : List Int) (w : Int) : Bool :=
  numOk desk lns.length && (ns.all (fun i => numOk i (lns.getD desk.toNat []).length) && (partOk ws many (chosenOf ns (lns.getD desk.toNat [])) w && partOk ws many (othersOf ns (lns.getD desk.toNat [])) (ws.getD desk.toNat 0 - w)))
def splitH (hs : List Str) (d : Nat) : List Str := hs ++ [hs.getD d ""]
def splitW (ws : List Int) (d : Nat) (w : Int) : List Int := (ws ++ [ws.getD d 0 - w]).set d w
def splitL (lns : List (List (Str × Nat))) (d : Nat) (ns : List Int) : List (List (Str × Nat)) := ((lns ++ [othersOf ns (lns.getD d [])]).set d (chosenOf ns (lns.getD d []))).map (twins d lns.length)
theorem twins_len (d t : Nat) : ∀ l : List (Str × Nat), (twins d t l).length ≤ 2 * l.length
  | [] => Nat.le_refl _
  | q :: l => by
    have := twins_len d t l
    show ((if q.2 = d then [q, (q.1, t)] else [q]) ++ twins d t l).length ≤ 2 * (l.length + 1)
    rw [List.length_append]
    split
    · show 2 + _ ≤ _; omega
    · show 1 + _ ≤ _; omega
theorem twins_snoc (d t : Nat) (l : List (Str × Nat)) (q : Str × Nat) : twins d t (l ++ [q]) = twins d t l ++ (if q.2 = d then [q, (q.1, t)] else [q]) := by
  unfold twins
  rw [List.flatMap_append]
  congr 1
  show (if q.2 = d then [q, (q.1, t)] else [q]) ++ [] = _
  rw [List.append_nil]
theorem rds_pick {K : PySem.W.Frag} {H : Hp} (p : Nat → Bool) {qs : List (Str × Nat)} {xs : List V} (h : RdsL K H (qs.map dStep) xs) : RdsL K H ((pickF p 0 qs).map dStep) (pickF p 0 xs) := by
  rw [← pickF_map]
  exact h.pick p 0 _ _
theorem rdsL_at {α : Type} {K : PySem.W.Frag} {H : Hp} (f : α → V) : ∀ (zs : List α) (xs : List V), RdsL K H (zs.map fun z => Dat.at (f z)) xs → xs = zs.map f
  | [], xs, h => h
  | z :: zs, _, h => by
    obtain ⟨v, vs, rfl, ⟨rfl, _⟩, hl⟩ := h
    rw [rdsL_at f zs vs hl]
    rfl
theorem rd_strs {K : PySem.W.Frag} {H : Hp} {hs : List Str} {a : Addr} (h : Rds K H (dStrs hs) (.ref a)) : Rd H a (.lst (hs.map V.str)) := by
  obtain ⟨a', xs, e, hS, hl⟩ := h
  cases e
  rwa [rdsL_at V.str hs xs hl] at hS
theorem rd_ints {K : PySem.W.Frag} {H : Hp} {ws : List Int} {a : Addr} (h : Rds K H (dInts ws) (.ref a)) : Rd H a (.lst (ws.map V.int)) := by
  obtain ⟨a', xs, e, hS, hl⟩ := h
  cases e
  rwa [rdsL_at V.int ws xs hl] at hS
theorem line_refs {K : PySem.W.Frag} {H : Hp} {qs : List (Str × Nat)} {v : V} (h : Rds K H (dLine qs) v) : ∃ a rs, v = .ref a ∧ SqL K H a (rs.map V.ref) ∧ TupsAt H rs ((qs.map stepQ).map pairL) := by
  obtain ⟨a, xs, rfl, hS, hlen, hT⟩ := line_pairs h
  have ex : xs = (xs.map fun v => match v with | .ref r => r | _ => 0).map V.ref := by
    rw [List.map_map]
    refine (List.map_id' xs).symm.trans (List.map_congr_left fun v hv => ?_)
    obtain ⟨i, hi, rfl⟩ := List.getElem_of_mem hv
    obtain ⟨r, hr, _⟩ := hT i _ (List.getElem?_eq_getElem (by rw [← hlen]; exact hi))
    rw [List.getElem?_eq_getElem hi] at hr
    rw [Option.some.inj hr]
    rfl
  refine ⟨a, _, rfl, by rw [← ex]; exact hS, by rw [List.length_map, List.length_map, hlen], fun i r ys h1 h2 => ?_⟩
  rw [List.getElem?_map] at h1 h2
  cases e : (qs.map stepQ)[i]? with
  | none => rw [e] at h2; cases h2
  | some q =>
    rw [e] at h2
    cases h2
    obtain ⟨r', hr', ht⟩ := hT i q e
    rw [hr'] at h1
    cases h1
    exact ht
/-- the sheet is whole: every desk has a home, a weight and a line, and every step leads to a desk -/
structure Whole (hs : List Str) (ws : List Int) (lns : List (List (Str × Nat))) : Prop where
  w : ws.length = hs.length
  l : lns.length = hs.length
  e : ∀ l ∈ lns, ∀ q ∈ l, q.2 < hs.length
  n : hs.length ≤ 1000
  m : ∀ l ∈ lns, l.length ≤ 5000
end Bs
namespace Sx
open PySem L2 Bs
def spNumOf (K : PySem.W.Frag) : Sp := fun vs H Q _ => ∃ (i : Int) (a : Addr) (xs : List V), vs = [.int i, .ref a] ∧ SqL K H a xs ∧ Q (.bl (numOk i xs.length)) H
def spPart (K : PySem.W.Frag) (CS CN : Addr) : Sp := fun vs H Q E => ∃ (x : Addr) (many : Int) (v : V) (w : Int) (hs : List Str) (ws : List Int) (lns : List (List (Str × Nat))) (qs : List (Str × Nat)), vs = [.ref x, .int many, v, .int w] ∧ SheetAt K CS H x hs ws lns ∧ Rds K H (dLine qs) v ∧ qs.length ≤ 10000 ∧ (∀ q ∈ qs, q.2 < ws.length) ∧ 0 ≤ many ∧ many ≤ 1000 ∧
  ((partOk ws many qs w = true ∧ ∀ H', Same H H' → Q .non H') ∨ (partOk ws many qs w = false ∧ ∀ H', Same H H' → E (.ref CN) none H'))
def spTwins (K : PySem.W.Frag) : Sp := fun vs H Q _ => ∃ (v : V) (d t : Nat) (qs : List (Str × Nat)), vs = [v, .int (d : Int), .int (t : Int)] ∧ Rds K H (dLine qs) v ∧ qs.length ≤ 5000 ∧ ∀ y H', Same H H' → Rds K (newIn H H') (dLine (twins d t qs)) y → Q y H'
def spSplit (K : PySem.W.Frag) (CS CN : Addr) : Sp := fun vs H Q E => ∃ (x a : Addr) (many desk w : Int) (ns : List Int) (hs : List Str) (ws : List Int) (lns : List (List (Str × Nat))), vs = [.ref x, .int many, .int desk, .ref a, .int w] ∧ SheetAt K CS H x hs ws lns ∧ SqL K H a (ns.map V.int) ∧ ns.length ≤ 10000 ∧ Whole hs ws lns ∧ 0 ≤ many ∧ many ≤ 1000 ∧
  ((splitOk ws lns many desk ns w = true ∧ ∀ y H', Same H H' → SheetAt K CS (newIn H H') y (splitH hs desk.toNat) (splitW ws desk.toNat w) (splitL lns desk.toNat ns) → Q (.ref y) H') ∨ (splitOk ws lns many desk ns w = false ∧ ∀ H', Same H H' → E (.ref CN) none H'))
end Sx

set_option Elab.async false
set_option linter.all false
set_option maxRecDepth 100000
set_option maxHeartbeats 4000000
namespace K32
open PySem L2 Bs Sx
def top (i : Nat) : Stmt := PySem.Challenge.pw_bandscribe_k32_no_split.main.body.getD i (.Pass ⟨0, 0, 0, 0⟩)
/-- names that the text leaves to Python -/
structure Txt (mg : Str → Option Value) : Prop where
  «ValueError» : mg "ValueError" = none
  «abs» : mg "abs" = none
  «all» : mg "all" = none
  «bool» : mg "bool" = none
  «enum» : mg "enumerate" = none
  «int» : mg "int" = none
  «isi» : mg "isinstance" = none
  «len» : mg "len" = none
  «list» : mg "list" = none
  «range» : mg "range" = none
  «sum» : mg "sum" = none
structure Cl_Sheet (K : PySem.W.Frag) (C : Addr) : Prop where
  cl : Cls K C
  n_homes : NoAttr K C "homes"
  n_weights : NoAttr K C "weights"
  n_lines : NoAttr K C "lines"
/-- what the top has written -/
structure Lk (K : PySem.W.Frag) (mg : Str → Option Value) where
  T : Txt mg
  f_copied_steps : Addr
  d_copied_steps : FuncData
  a_copied_steps : FnAt K mg "copied_steps" (top 19) ["line"] f_copied_steps d_copied_steps
  f_Sheet___init__ : Addr
  d_Sheet___init__ : FuncData
  f_is_number_of : Addr
  d_is_number_of : FuncData
  a_is_number_of : FnAt K mg "is_number_of" (top 21) ["number", "things"] f_is_number_of d_is_number_of
  f_check_part : Addr
  d_check_part : FuncData
  a_check_part : FnAt K mg "check_part" (top 22) ["sheet", "many", "steps", "weight"] f_check_part d_check_part
  f_with_twins : Addr
  d_with_twins : FuncData
  a_with_twins : FnAt K mg "with_twins" (top 23) ["line", "desk", "twin"] f_with_twins d_with_twins
  f_split : Addr
  d_split : FuncData
  a_split : FnAt K mg "split" (top 24) ["sheet", "many", "desk", "numbers", "weight"] f_split d_split
  f__law_nth : Addr
  d__law_nth : FuncData
  a__law_nth : FnAt K mg "_law_nth" (top 26) ["_law_script", "_law_k"] f__law_nth d__law_nth
  f__law_mixed : Addr
  d__law_mixed : FuncData
  a__law_mixed : FnAt K mg "_law_mixed" (top 27) ["_law_cell", "_law_turn", "_law_many"] f__law_mixed d__law_mixed
  f__law_sheet : Addr
  d__law_sheet : FuncData
  a__law_sheet : FnAt K mg "_law_sheet" (top 28) ["_law_cell", "_law_many"] f__law_sheet d__law_sheet
  f__law_half : Addr
  d__law_half : FuncData
  a__law_half : FnAt K mg "_law_half" (top 29) ["_law_cell", "_law_many"] f__law_half d__law_half
  f__law_part : Addr
  d__law_part : FuncData
  a__law_part : FnAt K mg "_law_part" (top 30) ["_law_lines", "_law_weights", "_law_desk", "_law_numbers"] f__law_part d__law_part
  f__law_divided : Addr
  d__law_divided : FuncData
  a__law_divided : FnAt K mg "_law_divided" (top 31) ["_law_homes", "_law_weights", "_law_lines", "_law_desk", "_law_numbers", "_law_weight"] f__law_divided d__law_divided
  f__law_is_sheet : Addr
  d__law_is_sheet : FuncData
  a__law_is_sheet : FnAt K mg "_law_is_sheet" (top 32) ["_law_found", "_law_due"] f__law_is_sheet d__law_is_sheet
  f__law_turned : Addr
  d__law_turned : FuncData
  a__law_turned : FnAt K mg "_law_turned" (top 33) ["_law_cell", "_law_here", "_law_desk", "_law_numbers"] f__law_turned d__law_turned
  f__law_others : Addr
  d__law_others : FuncData
  a__law_others : FnAt K mg "_law_others" (top 34) ["_law_e"] f__law_others d__law_others
  f__law_is_refused : Addr
  d__law_is_refused : FuncData
  a__law_is_refused : FnAt K mg "_law_is_refused" (top 35) ["_law_sheet_here", "_law_many", "_law_desk", "_law_numbers", "_law_weight"] f__law_is_refused d__law_is_refused
  c_Sheet : Addr
  g_Sheet : mg "Sheet" = some (.ref c_Sheet)
  cl_Sheet : Cl_Sheet K c_Sheet
  mk_Sheet : Mk K c_Sheet f_Sheet___init__
  Y_Sheet : XIsi K c_Sheet
  mo_Sheet : PySem.W.mroIn K c_Sheet (.type "object") = some true
  m_Sheet___init__ : MthAt K c_Sheet "__init__" "Sheet.__init__" (inClass (top 20) 0) ["self", "homes", "weights", "lines"] f_Sheet___init__ d_Sheet___init__
  c_BandError : Addr
  g_BandError : mg "BandError" = some (.ref c_BandError)
  XT : XTop K c_BandError "BandError"
  XB : XBase K c_BandError
  c_NoSigns : Addr
  g_NoSigns : mg "NoSigns" = some (.ref c_NoSigns)
  V_NoSigns : XRaw K c_NoSigns c_BandError "NoSigns"
  c_TooMany : Addr
  g_TooMany : mg "TooMany" = some (.ref c_TooMany)
  V_TooMany : XRaw K c_TooMany c_BandError "TooMany"
  c_NoWord : Addr
  g_NoWord : mg "NoWord" = some (.ref c_NoWord)
  V_NoWord : XRaw K c_NoWord c_BandError "NoWord"
  c_NoRow : Addr
  g_NoRow : mg "NoRow" = some (.ref c_NoRow)
  V_NoRow : XRaw K c_NoRow c_BandError "NoRow"
  c_Barred : Addr
  g_Barred : mg "Barred" = some (.ref c_Barred)
  V_Barred : XRaw K c_Barred c_BandError "Barred"
  c_NoPlace : Addr
  g_NoPlace : mg "NoPlace" = some (.ref c_NoPlace)
  V_NoPlace : XRaw K c_NoPlace c_BandError "NoPlace"
  c_NoNumber : Addr
  g_NoNumber : mg "NoNumber" = some (.ref c_NoNumber)
  V_NoNumber : XRaw K c_NoNumber c_BandError "NoNumber"
  c_NoRate : Addr
  g_NoRate : mg "NoRate" = some (.ref c_NoRate)
  V_NoRate : XRaw K c_NoRate c_BandError "NoRate"
  c_NoSplit : Addr
  g_NoSplit : mg "NoSplit" = some (.ref c_NoSplit)
  U_NoSplit : XUnder K c_NoSplit c_BandError "NoSplit"
  Y_NoSplit : XIsi K c_NoSplit
  hi_NoSplit : PySem.W.findIn K (.ref c_NoSplit) "__init__" = some (some (.builtin "ValueError.__init__"))
  c_NoLength : Addr
  g_NoLength : mg "NoLength" = some (.ref c_NoLength)
  V_NoLength : XRaw K c_NoLength c_BandError "NoLength"
  c_Scarce : Addr
  g_Scarce : mg "Scarce" = some (.ref c_Scarce)
  V_Scarce : XRaw K c_Scarce c_BandError "Scarce"
  c_Open : Addr
  g_Open : mg "Open" = some (.ref c_Open)
  V_Open : XRaw K c_Open c_BandError "Open"
  c_NoData : Addr
  g_NoData : mg "NoData" = some (.ref c_NoData)
  V_NoData : XRaw K c_NoData c_BandError "NoData"
  c_NoForm : Addr
  g_NoForm : mg "NoForm" = some (.ref c_NoForm)
  V_NoForm : XRaw K c_NoForm c_BandError "NoForm"
  c_NoBand : Addr
  g_NoBand : mg "NoBand" = some (.ref c_NoBand)
  V_NoBand : XRaw K c_NoBand c_BandError "NoBand"
  c_NoWriter : Addr
  g_NoWriter : mg "NoWriter" = some (.ref c_NoWriter)
  V_NoWriter : XRaw K c_NoWriter c_BandError "NoWriter"
end K32

set_option Elab.async false
set_option linter.all false
set_option maxRecDepth 100000
set_option maxHeartbeats 4000000
namespace K32
open PySem L2 Bs Sx
section
variable {P : Program} {w : World} {K : PySem.W.Frag} {mg : Str → Option Value} {base : Heap}
theorem sc_copied_steps : FnScope ["line"] ["line"] (defScope (top 19)) := ⟨rfl, rfl, rfl, by decide +kernel, rfl, by decide +kernel, by decide +kernel⟩
theorem ok_copied_steps (L : Lk K mg) : FnOk P w K mg base CX0 1 L.f_copied_steps L.d_copied_steps ["line"] (spCopied K) := by
  have T := L.T
  refine L.a_copied_steps.F.ok sc_copied_steps (fun vs H Q E h => ?_) (fun cdv A outer s H vs Q E hr h => ?_)
  · obtain ⟨v, qs, rfl, _⟩ := h
    rfl
  · obtain ⟨v, qs, rfl, hL, hn, k⟩ := h
    refine ⟨_, (pss_one (ps_ret (pe_comp2 rfl (blockOk_of (sc := defScope (top 19)) (N := ["line"]) (ys := []) (ix := []) rfl rfl (by decide +kernel)) (blockOk_of (sc := defScope (top 19)) (N := ["line"]) (ys := []) (ix := []) rfl rfl (by decide +kernel)) (by decide) (pi_list (pv 0)) (fun _ _ _ _ _ _ => pts_nil) (fun _ _ _ _ _ _ => (pe_tup (pa_cons (pv 0) (pa_cons (pv 1) pa_nil))))))), ?_⟩
    obtain ⟨a, xs, rfl, hS, hlen, hT⟩ := line_pairs hL
    have hln := hlen
    rw [List.length_map] at hln
    refine ⟨_, rfl, a, rfl, ⟨_, hS⟩, fun l hl => ?_⟩
    refine comp_new2 (prs := qs.map stepQ) (fun _ => true) (fun q => .tup [.at q.1, .at q.2]) (itIs_list K a xs) hlen (fun i q hq => let ⟨r, h1, h2⟩ := hT i q hq; ⟨r, h1, SqT.of h2⟩) hl (small16 (by omega)) (fun H' s' => s'.seq hS) (fun q H3 Q' _ _ qq => qq H3 (Same.refl _)) (fun q H3 Q' hq _ s3 qq => ?_) (fun H' s' r => ?_)
    · obtain ⟨z, hz, rfl⟩ := List.mem_map.mp hq
      exact ⟨_, rfl, _, rfl, by show 2 ≤ sizeLine; decide, fun r hr => qq _ _ (Same.upd hr) (step_new hr z)⟩
    · rw [List.filter_eq_self.mpr (fun _ _ => rfl), List.map_map] at r
      exact k _ H' s' r
theorem sc_Sheet___init__ : FnScope ["self", "homes", "weights", "lines"] ["self", "homes", "weights", "lines"] (defScope (inClass (top 20) 0)) := ⟨rfl, rfl, rfl, by decide +kernel, rfl, by decide +kernel, by decide +kernel⟩
theorem ok_Sheet___init__ (L : Lk K mg) : FnOk P w K mg base CX0 2 L.f_Sheet___init__ L.d_Sheet___init__ ["self", "homes", "weights", "lines"] (spSheetI K L.c_Sheet) := by
  have T := L.T
  refine L.m_Sheet___init__.F.ok sc_Sheet___init__ (fun vs H Q E h => ?_) (fun cdv A outer s H vs Q E hr h => ?_)
  · obtain ⟨x, dx, u, v, w, hs, ws, lns, rfl, _⟩ := h
    rfl
  · obtain ⟨x, dx, u, v, w, hs, ws, lns, rfl, hx, hu1, hv1, hw1, n1, n2, n3, n4, k⟩ := h
    refine ⟨_, (pss_cons (ps_fld (pv 0) (pe_callTy call_list_of (by rfl) T.list bList (pa_cons (pv 1) pa_nil)) rfl)
        (pss_cons (ps_fld (pv 0) (pe_callTy call_list_of (by rfl) T.list bList (pa_cons (pv 2) pa_nil)) rfl)
        (pss_one (ps_fld (pv 0) (pe_comp rfl (blockOk_of (sc := defScope (inClass (top 20) 0)) (N := ["self", "homes", "weights", "lines"]) (ys := []) (ix := []) rfl rfl (by decide +kernel)) (pi_list (pv 3)) (fun _ _ _ _ _ _ => pts_nil) (fun _ _ _ _ _ _ => (pe_call (ok_copied_steps L) (hr.mono (by decide)) rfl L.a_copied_steps.g L.a_copied_steps.F.kp L.a_copied_steps.b .nil pass0 (pa_cons (pv 0) pa_nil)))) rfl)))), ?_⟩
    obtain ⟨a, rfl, ha⟩ := rds_strs hu1
    obtain ⟨b, rfl, hb⟩ := rds_ints hv1
    obtain ⟨c, xs, rfl, hc, hcl⟩ := hw1
    have xl : xs.length = lns.length := by rw [hcl.len, List.length_map]
    have nseq : ∀ {d : Addr} {ys : List V} {H' : Hp}, SqL K H d ys → (∀ b o, H b = some o → b ≠ x → H' b = some o) → SqL K H' d ys := fun hS kp => (off_sub kp).seq (seq_off hx hS)
    -- self.homes = list(homes)
    refine ⟨_, rfl, a, _, rfl, .inl ha, fun a' ha' => ?_⟩
    have nax : x ≠ a' := ne_of_none hx ha'
    refine ⟨_, rfl, x, L.c_Sheet, dx, [], rfl, by rw [upd_ne nax]; exact hx, L.cl_Sheet.cl, L.cl_Sheet.n_homes, (show 0 < 1000 by decide), ?_⟩
    rw [putS1]
    have k1 : ∀ d o, H d = some o → d ≠ x → (upd (upd H a' (.lst (hs.map V.str))) x (.ins L.c_Sheet dx (fldS1 a'))) d = some o := fun d o e hd => by rw [upd_ne hd]; exact Same.upd ha' _ _ e
    have x1 : (upd (upd H a' (.lst (hs.map V.str))) x (.ins L.c_Sheet dx (fldS1 a'))) x = some (.ins L.c_Sheet dx (fldS1 a')) := upd_same
    have a1 : (upd (upd H a' (.lst (hs.map V.str))) x (.ins L.c_Sheet dx (fldS1 a'))) a' = some (.lst (hs.map V.str)) := by rw [upd_ne nax.symm, upd_same]
    generalize upd (upd H a' (.lst (hs.map V.str))) x (.ins L.c_Sheet dx (fldS1 a')) = H1 at k1 x1 a1 ⊢
    -- self.weights = list(weights)
    refine ⟨_, rfl, b, _, rfl, .inl (nseq hb k1), fun b' hb' => ?_⟩
    have nbx : x ≠ b' := ne_of_none x1 hb'
    have nab : a' ≠ b' := ne_of_none a1 hb'
    have hbH : H b' = none := by
      cases q : H b' with
      | none => rfl
      | some o => have := k1 _ _ q nbx.symm; rw [hb'] at this; cases this
    refine ⟨_, rfl, x, L.c_Sheet, dx, fldS1 a', rfl, by rw [upd_ne nbx]; exact x1, L.cl_Sheet.cl, L.cl_Sheet.n_weights, (show 1 < 1000 by decide), ?_⟩
    rw [putS2]
    have k2 : ∀ d o, H d = some o → d ≠ x → (upd (upd H1 b' (.lst (ws.map V.int))) x (.ins L.c_Sheet dx (fldS2 a' b'))) d = some o := fun d o e hd => by rw [upd_ne hd]; exact Same.upd hb' _ _ (k1 _ _ e hd)
    have x2 : (upd (upd H1 b' (.lst (ws.map V.int))) x (.ins L.c_Sheet dx (fldS2 a' b'))) x = some (.ins L.c_Sheet dx (fldS2 a' b')) := upd_same
    have a2 : (upd (upd H1 b' (.lst (ws.map V.int))) x (.ins L.c_Sheet dx (fldS2 a' b'))) a' = some (.lst (hs.map V.str)) := by rw [upd_ne nax.symm, upd_ne nab]; exact a1
    have b2 : (upd (upd H1 b' (.lst (ws.map V.int))) x (.ins L.c_Sheet dx (fldS2 a' b'))) b' = some (.lst (ws.map V.int)) := by rw [upd_ne nbx.symm, upd_same]
    generalize upd (upd H1 b' (.lst (ws.map V.int))) x (.ins L.c_Sheet dx (fldS2 a' b')) = H2 at k2 x2 a2 b2 ⊢
    -- self.lines = [copied_steps(line) for line in lines]
    have hcl3 := RdsL.same (off_sub k2) _ _ (RdsL.off hx _ _ hcl)
    refine ⟨_, rfl, c, rfl, ⟨_, nseq (.inl hc) k2⟩, fun c' hc' => ?_⟩
    refine comp_new (K := K) (lns.map dLine) (itIs_list K c xs) hc' (small16 (by omega)) (by rw [List.length_map, xl]) (fun H' s' => s'.seq (nseq (.inl hc) k2)) (fun i y d H3 Q' hy hd s3 qq => ?_) (fun H3 s3 r3 => ?_)
    · obtain ⟨d', e', r⟩ := hcl3.get i y hy
      rw [hd] at e'
      cases e'
      rw [List.getElem?_map] at hd
      cases e : lns[i]? with
      | none => rw [e] at hd; cases hd
      | some qs =>
        rw [e] at hd
        cases hd
        exact ⟨_, rfl, y, qs, rfl, Rds.same s3 _ _ r, n4 qs (List.mem_of_getElem? e), fun z H4 s4 r4 => qq z H4 s4 r4⟩
    · have ncx : x ≠ c' := ne_of_none x2 hc'
      refine ⟨_, rfl, x, L.c_Sheet, dx, fldS2 a' b', rfl, s3 _ _ x2, L.cl_Sheet.cl, L.cl_Sheet.n_lines, (show 2 < 1000 by decide), ?_⟩
      rw [putS3]
      have up : Same (newIn H H3) (newIn H (upd H3 x (.ins L.c_Sheet dx (fldS a' b' c')))) := newIn_keep hx fun d o e hd => by rw [upd_ne hd]; exact e
      have old : Same (newIn H2 H3) (newIn H H3) := fun d o e => by
        unfold newIn at e ⊢
        cases q : H d with
        | none =>
          cases q2 : H2 d with
          | none => rw [q2] at e; exact e
          | some z => rw [q2] at e; cases e
        | some z =>
          by_cases hd : d = x
          · rw [hd, x2] at e; cases e
          · rw [k2 _ _ q hd] at e; cases e
      refine k a' b' c' _ upd_same ?_ ?_ (Rds.same (old.trans up) _ _ r3) fun d o e hd => by rw [upd_ne hd]; exact s3 _ _ (k2 _ _ e hd)
      · exact strs_rds ((newIn_at ha' (by rw [upd_ne nax.symm]; exact s3 _ _ a2)))
      · exact ints_rds ((newIn_at hbH (by rw [upd_ne nbx.symm]; exact s3 _ _ b2)))
theorem sc_is_number_of : FnScope ["number", "things"] ["number", "things"] (defScope (top 21)) := ⟨rfl, rfl, rfl, by decide +kernel, rfl, by decide +kernel, by decide +kernel⟩
theorem ok_is_number_of (L : Lk K mg) : FnOk P w K mg base CX0 1 L.f_is_number_of L.d_is_number_of ["number", "things"] (spNumOf K) := by
  have T := L.T
  refine L.a_is_number_of.F.ok sc_is_number_of (fun vs H Q E h => ?_) (fun cdv A outer s H vs Q E hr h => ?_)
  · obtain ⟨i, a, xs, rfl, _⟩ := h
    rfl
  · obtain ⟨i, a, xs, rfl, hS, k⟩ := h
    refine ⟨_, (pss_one (ps_ret (pe_and (pe_cmpR op_ge (pv 0) pe_int (nomark _)) (pe_one (pe_cmpR op_lt (pv 0) (pe_callB call_len_seq (by rfl) T.len PySem.boot_len (pa_cons (pv 1) pa_nil)) (nomark _)))))), ?_⟩
    by_cases h0 : 0 ≤ i
    · have e : numOk i xs.length = decide (i < (xs.length : Int)) := by unfold numOk; rw [decide_eq_true h0, Bool.true_and]
      rw [e] at k
      exact ⟨_, rfl, _, _, rfl, rfl, true, congrArg V.bl (decide_eq_true h0), iteT ⟨_, rfl, _, rfl, a, xs, rfl, .inl hS, _, _, rfl, rfl, k⟩⟩
    · have e : numOk i xs.length = false := by unfold numOk; rw [decide_eq_false h0, Bool.false_and]
      rw [e] at k
      exact ⟨_, rfl, _, _, rfl, rfl, false, congrArg V.bl (decide_eq_false h0), iteF k⟩
theorem sc_check_part : FnScope ["sheet", "many", "steps", "weight"] ["sheet", "many", "steps", "weight"] (defScope (top 22)) := ⟨rfl, rfl, rfl, by decide +kernel, rfl, by decide +kernel, by decide +kernel⟩
theorem ok_check_part (L : Lk K mg) : FnOk P w K mg base (CXe P w) 1 L.f_check_part L.d_check_part ["sheet", "many", "steps", "weight"] (spPart K L.c_Sheet L.c_NoSplit) := by
  have T := L.T
  refine L.a_check_part.F.okE sc_check_part (fun vs H Q E h => ?_) (fun cdv A outer s H vs Q E hr h => ?_)
  · obtain ⟨x, many, v, w, hs, ws, lns, qs, rfl, _⟩ := h
    rfl
  · obtain ⟨x, many, v, w, hs, ws, lns, qs, rfl, S, hL, hql, hqe, m0, m1, k⟩ := h
    refine ⟨_, (pss_cons (ps_if (pt_cmpR op_eq (pe_callB call_len_seq (by rfl) T.len PySem.boot_len (pa_cons (pv 2) pa_nil)) pe_int (nomark _)) (pss_one (ps_raise0 takes_fn rfl L.U_NoSplit L.hi_NoSplit rfl L.g_NoSplit (pa_cons pe_str pa_nil))) pss_nil)
        (pss_cons (ps_if (pt_cmpR op_lt (pv 3) pe_int (nomark _)) (pss_one (ps_raise0 takes_fn rfl L.U_NoSplit L.hi_NoSplit rfl L.g_NoSplit (pa_cons pe_str pa_nil))) pss_nil)
        (pss_one (ps_if (pt_cmpR op_lt (pe_callB (call_sum rfl) (by rfl) T.sum bSum (pa_cons (pe_comp2 rfl (blockOk_of (sc := defScope (top 22)) (N := ["sheet", "many", "steps", "weight"]) (ys := ["sheet"]) (ix := [0]) rfl rfl (by decide +kernel)) (blockOk_of (sc := defScope (top 22)) (N := ["sheet", "many", "steps", "weight"]) (ys := ["sheet"]) (ix := [0]) rfl rfl (by decide +kernel)) (by decide) (pi_list (pv 2)) (fun _ _ _ _ _ _ => pts_nil) (fun _ _ _ _ _ _ => (pe_ix (ix_listK (K := K) rfl) (pe_fldK (K := K) rfl (pv 2) rfl) (pv 1) (fun _ _ => rfl)))) pa_nil)) (pe_op op_mul (pv 1) (pv 3)) (nomark _)) (pss_one (ps_raise0 takes_fn rfl L.U_NoSplit L.hi_NoSplit rfl L.g_NoSplit (pa_cons pe_str pa_nil))) pss_nil)))), ?_⟩
    obtain ⟨dx, ah, bw, cl, hx, rh, rw', rl⟩ := id S
    obtain ⟨bw', eb, hb⟩ := rds_ints rw'
    cases eb
    obtain ⟨a, rs, rfl, hS, hT⟩ := line_refs hL
    have hrl : rs.length = qs.length := by rw [hT.1, List.length_map, List.length_map]
    have no : partOk ws many qs w = false → ∀ H', Same H H' → E (.ref L.c_NoSplit) none H' := fun h => by
      rcases k with ⟨k1, _⟩ | ⟨_, k2⟩
      · rw [h] at k1; cases k1
      · exact k2
    by_cases q0 : qs = []
    · subst q0
      have r0 : rs = [] := List.eq_nil_of_length_eq_zero hrl
      subst r0
      exact ⟨_, rfl, a, _, rfl, .inl hS, rfl, true, eqSelf _, iteT ⟨rfl, no rfl H (Same.refl _)⟩⟩
    have hq1 : rs.length ≠ 0 := by rw [hrl]; exact fun z => q0 (List.eq_nil_of_length_eq_zero z)
    have hqe' : qs.isEmpty = false := by cases qs with | nil => exact absurd rfl q0 | cons _ _ => rfl
    refine ⟨_, rfl, a, _, rfl, .inl hS, rfl, false, congrArg V.bl (decide_eq_false fun z => by have := V.int.inj z; rw [List.length_map] at this; omega), iteF ?_⟩
    by_cases w1 : w < 1
    · refine ⟨_, rfl, _, _, rfl, rfl, true, congrArg V.bl (decide_eq_true w1), iteT ⟨rfl, no ?_ H (Same.refl _)⟩⟩
      unfold partOk
      rw [decide_eq_false (show ¬ 1 ≤ w by omega), Bool.false_and, Bool.and_false]
    refine ⟨_, rfl, _, _, rfl, rfl, false, congrArg V.bl (decide_eq_false w1), iteF ?_⟩
    refine ⟨_, rfl, a, rfl, ⟨_, hS⟩, fun lc hlc => ?_⟩
    refine comp_pure2 (prs := qs.map stepQ) (fun _ => true) (fun q => match q.2 with | .int e => .int (ws.getD e.toNat 0) | _ => .non) (itIs_list K a (rs.map V.ref)) hT hlc (small16 (by omega)) (fun H' s' => s'.seq hS) (fun q H7 Q' _ _ qq => qq H7 (Same.refl _)) (fun q H7 Q' hq _ s7 qq => ?_) (fun H7 s7 h7 => ?_)
    · obtain ⟨q', hq', rfl⟩ := List.mem_map.mp hq
      have hlt := hqe q' hq'
      have hat : atI (ws.map V.int) (q'.2 : Int) = some (.int (ws.getD q'.2 0)) := atI_nat (by rw [List.getElem?_map, List.getElem?_eq_getElem hlt, List.getD_eq_getElem?_getD, List.getElem?_eq_getElem hlt]; rfl)
      have q2 : Q' (.int (ws.getD q'.2 0)) H7 := by
        have := qq H7 (Same.refl _)
        rwa [show (stepQ q').2 = .int (q'.2 : Int) from rfl] at this
      exact ⟨_, rfl, x, L.c_Sheet, dx, _, _, rfl, s7 _ _ hx, L.cl_Sheet.cl, L.cl_Sheet.n_weights, lookS_weights ah bw cl, _, rfl, bw, _, _, _, rfl, rfl, s7.seq hb, hat, q2⟩
    have e7 : ((qs.map stepQ).filter fun _ => true).map (fun q => match q.2 with | .int e => V.int (ws.getD e.toNat 0) | _ => .non) = (qs.map fun q => ws.getD q.2 0).map V.int := by
      rw [List.filter_eq_self.mpr (fun _ _ => rfl), List.map_map, List.map_map]
      rfl
    rw [e7] at h7
    refine ⟨lc, _, rfl, SqL.of h7, _, rfl, _, rfl, _, _, rfl, rfl, .inl ⟨by omega, by omega⟩, _, _, rfl, rfl, ?_⟩
    by_cases hs' : stepSum ws qs < many * w
    · refine ⟨true, congrArg V.bl (decide_eq_true hs'), iteT ⟨rfl, no ?_ H7 s7⟩⟩
      unfold partOk
      rw [decide_eq_false (show ¬ many * w ≤ stepSum ws qs by omega), Bool.and_false, Bool.and_false]
    · refine ⟨false, congrArg V.bl (decide_eq_false hs'), iteF ?_⟩
      rcases k with ⟨_, k1⟩ | ⟨k2, _⟩
      · exact k1 H7 s7
      · unfold partOk at k2
        rw [hqe', decide_eq_true (show 1 ≤ w by omega), decide_eq_true (show many * w ≤ stepSum ws qs by omega)] at k2
        cases k2
theorem sc_with_twins : FnScope ["line", "desk", "twin", "steps", "word", "end"] ["line", "desk", "twin"] (defScope (top 23)) := ⟨rfl, rfl, rfl, by decide +kernel, rfl, by decide +kernel, by decide +kernel⟩
theorem ok_with_twins (L : Lk K mg) : FnOk P w K mg base CX0 1 L.f_with_twins L.d_with_twins ["line", "desk", "twin"] (spTwins K) := by
  have T := L.T
  refine L.a_with_twins.F.ok sc_with_twins (fun vs H Q E h => ?_) (fun cdv A outer s H vs Q E hr h => ?_)
  · obtain ⟨v, d, t, qs, rfl, _⟩ := h
    rfl
  · obtain ⟨v, d, t, qs, rfl, hL, hql, k⟩ := h
    refine ⟨_, (pss_cons (ps_set (i := 3) sc_with_twins.nd rfl (Or.inl rfl) (pe_lst pa_nil))
        (pss_cons (ps_for PassesOwn.never rfl (pi_list (pv 0)) (pg_tup rfl (pgs_cons (pg_name (i := 4) sc_with_twins.nd rfl (Or.inl rfl)) (pgs_cons (pg_name (i := 5) sc_with_twins.nd rfl (Or.inl rfl)) pgs_nil))) (pss_cons (ps_expr (pe_bm PySem.F.plainAttrs_list PySem.F.slot_list_append PySem.F.type_list_append mt_append (pv 3) (pa_cons (pe_tup (pa_cons (pv 4) (pa_cons (pv 5) pa_nil))) pa_nil)))
        (pss_one (ps_if (pt_cmpR op_eq (pv 5) (pv 1) (nomark _)) (pss_one (ps_expr (pe_bm PySem.F.plainAttrs_list PySem.F.slot_list_append PySem.F.type_list_append mt_append (pv 3) (pa_cons (pe_tup (pa_cons (pv 4) (pa_cons (pv 2) pa_nil))) pa_nil)))) pss_nil))))
        (pss_one (ps_ret (pv 3))))), ?_⟩
    obtain ⟨a, rs, rfl, hS, hT⟩ := line_refs hL
    have hrl : rs.length = qs.length := by rw [hT.1, List.length_map, List.length_map]
    refine ⟨Nat.zero_le _, fun ll hll => ?_⟩
    have sb : Same H (upd H ll (.lst [])) := Same.upd hll
    have hb0 : (upd H ll (.lst [])) ll = some (.lst []) := upd_same
    generalize upd H ll (.lst []) = Hb at sb hb0
    have keep : ∀ {H3 : Hp}, (∀ c o, Hb c = some o → c ≠ ll → H3 c = some o) → Same H H3 := fun kk c o e => kk _ _ (sb _ _ e) (ne_of_none e hll)
    refine ⟨_, rfl, a, rfl, ⟨_, sb.seq hS⟩, for_list (K := K) (a := a) (xs := rs.map V.ref) (fun j σ H3 => ∃ (v4 v5 : Option V) (as : List V), σ = [some (.ref a), some (.int (d : Int)), some (.int (t : Int)), some (.ref ll), v4, v5] ∧ H3 ll = some (.lst as) ∧ (∀ c o, Hb c = some o → c ≠ ll → H3 c = some o) ∧ RdsL K (newIn Hb H3) ((twins d t (qs.take j)).map dStep) as)
      ⟨none, none, [], rfl, hb0, fun c o e _ => e, rfl⟩ (fun j σ H3 _ ⟨_, _, _, _, _, kk, _⟩ => (keep kk).seq hS) ?_ ?_⟩
    · rintro j y σ H3 hy ⟨v4, v5, as, rfl, h3l, kk, hR⟩
      have hj : j < rs.length := by have := (List.getElem?_eq_some_iff.mp hy).1; rwa [List.length_map] at this
      have hjq : j < qs.length := by omega
      rw [List.getElem?_map, List.getElem?_eq_getElem hj] at hy
      cases hy
      have hTj : H rs[j] = some (.tup [.str qs[j].1, .int (qs[j].2 : Int)]) := hT.2 j rs[j] (pairL (stepQ qs[j])) (List.getElem?_eq_getElem hj) (by rw [List.getElem?_map, List.getElem?_map, List.getElem?_eq_getElem hjq]; rfl)
      have htk : qs.take (j + 1) = qs.take j ++ [qs[j]] := by rw [List.take_add_one, List.getElem?_eq_getElem hjq]; rfl
      have hal : as.length ≤ 2 * j := by
        rw [hR.len, List.length_map]
        exact Nat.le_trans (twins_len d t _) (Nat.mul_le_mul_left 2 (by rw [List.length_take]; omega))
      generalize qs[j] = q at hTj htk
      refine ⟨rs[j], _, rfl, SqT.of (keep kk _ _ hTj), rfl, _, _, rfl, _, _, rfl, rfl, ?_⟩
      refine ⟨_, rfl, .inl ⟨rfl, _, SqL.of h3l⟩, _, rfl, _, rfl, by show 2 ≤ sizeLine; decide, fun r hr => ?_⟩
      have hbig : ∀ n : Nat, n ≤ 20000 → n < sizeLine := fun n hn => Nat.lt_of_le_of_lt hn (by rw [sizeLine_eq]; decide)
      have h3r := Same.upd (o := .tup [.str q.1, .int (q.2 : Int)]) hr _ _ h3l
      refine ⟨ll, _, _, rfl, rfl, h3r, hbig _ (by omega), ?_⟩
      have kp1 : ∀ c o, (upd H3 r (.tup [.str q.1, .int (q.2 : Int)])) c = some o → c ≠ ll → (upd (upd H3 r (.tup [.str q.1, .int (q.2 : Int)])) ll (.lst (as ++ [.ref r]))) c = some o := fun c o e hc => by rw [upd_ne hc]; exact e
      have kk4 : ∀ c o, Hb c = some o → c ≠ ll → (upd (upd H3 r (.tup [.str q.1, .int (q.2 : Int)])) ll (.lst (as ++ [.ref r]))) c = some o := fun c o e hc => kp1 _ _ (Same.upd hr _ _ (kk c o e hc)) hc
      have r0 : Hb r = none := by
        cases z : Hb r with
        | none => rfl
        | some o =>
          by_cases hc : r = ll
          · rw [hc, h3l] at hr; cases hr
          · rw [kk _ _ z hc] at hr; cases hr
      have hR4 : RdsL K (newIn Hb (upd (upd H3 r (.tup [.str q.1, .int (q.2 : Int)])) ll (.lst (as ++ [.ref r])))) ((twins d t (qs.take j)).map dStep ++ [dStep q]) (as ++ [.ref r]) := by
        refine rdsL_snoc (RdsL.same ((newIn_same (Same.upd hr)).trans (newIn_keep hb0 kp1)) _ _ hR) ?_
        have nrl : r ≠ ll := fun z => by rw [z, h3l] at hr; cases hr
        exact ⟨r, _, rfl, newIn_at r0 (by rw [upd_ne nrl, upd_same]), .str q.1, [.int (q.2 : Int)], rfl, ⟨rfl, rfl⟩, .int (q.2 : Int), [], rfl, ⟨rfl, rfl⟩, rfl⟩
      have h4l : (upd (upd H3 r (.tup [.str q.1, .int (q.2 : Int)])) ll (.lst (as ++ [.ref r]))) ll = some (.lst (as ++ [.ref r])) := upd_same
      generalize upd (upd H3 r (.tup [.str q.1, .int (q.2 : Int)])) ll (.lst (as ++ [.ref r])) = H4 at kk4 hR4 h4l
      by_cases hqd : q.2 = d
      · refine ⟨_, rfl, _, rfl, rfl, true, congrArg V.bl (decide_eq_true (by rw [hqd])), iteT ?_⟩
        refine ⟨_, rfl, .inl ⟨rfl, _, SqL.of h4l⟩, _, rfl, _, rfl, by show 2 ≤ sizeLine; decide, fun r2 hr2 => ?_⟩
        have h4r := Same.upd (o := .tup [.str q.1, .int (t : Int)]) hr2 _ _ h4l
        refine ⟨ll, _, _, rfl, rfl, h4r, hbig _ (by rw [List.length_append, List.length_singleton]; omega), ?_⟩
        have kp2 : ∀ c o, (upd H4 r2 (.tup [.str q.1, .int (t : Int)])) c = some o → c ≠ ll → (upd (upd H4 r2 (.tup [.str q.1, .int (t : Int)])) ll (.lst (as ++ [.ref r] ++ [.ref r2]))) c = some o := fun c o e hc => by rw [upd_ne hc]; exact e
        have r20 : Hb r2 = none := by
          cases z : Hb r2 with
          | none => rfl
          | some o =>
            by_cases hc : r2 = ll
            · rw [hc, h4l] at hr2; cases hr2
            · rw [kk4 _ _ z hc] at hr2; cases hr2
        refine ⟨_, _, _, rfl, upd_same, fun c o e hc => kp2 _ _ (Same.upd hr2 _ _ (kk4 c o e hc)) hc, ?_⟩
        rw [htk, twins_snoc, if_pos hqd, List.map_append]
        have em : ([q, (q.1, t)] : List (Str × Nat)).map dStep = [dStep q] ++ [dStep (q.1, t)] := rfl
        rw [em, ← List.append_assoc]
        refine rdsL_snoc (RdsL.same ((newIn_same (Same.upd hr2)).trans (newIn_keep hb0 kp2)) _ _ hR4) ?_
        have nrl : r2 ≠ ll := fun z => by rw [z, h4l] at hr2; cases hr2
        exact ⟨r2, _, rfl, newIn_at r20 (by rw [upd_ne nrl, upd_same]), .str q.1, [.int (t : Int)], rfl, ⟨rfl, rfl⟩, .int (t : Int), [], rfl, ⟨rfl, rfl⟩, rfl⟩
      · refine ⟨_, rfl, _, rfl, rfl, false, congrArg V.bl (decide_eq_false fun z => hqd (by have := V.int.inj z; omega)), iteF ?_⟩
        refine ⟨_, _, _, rfl, h4l, kk4, ?_⟩
        rw [htk, twins_snoc, if_neg hqd, List.map_append]
        exact hR4
    · rintro σ H3 ⟨v4, v5, as, rfl, h3l, kk, hR⟩
      rw [List.length_map, hrl, List.take_length] at hR
      exact ⟨_, rfl, k _ _ (keep kk) ⟨ll, as, rfl, .inl (newIn_at hll h3l), RdsL.same (newIn_old sb) _ _ hR⟩⟩
theorem sc_split : FnScope ["sheet", "many", "desk", "numbers", "weight", "line", "chosen", "others", "rest", "lines", "weights", "twin"] ["sheet", "many", "desk", "numbers", "weight"] (defScope (top 24)) := ⟨rfl, rfl, rfl, by decide +kernel, rfl, by decide +kernel, by decide +kernel⟩
theorem ok_split (L : Lk K mg) : FnOk P w K mg base (CXe P w) 4 L.f_split L.d_split ["sheet", "many", "desk", "numbers", "weight"] (spSplit K L.c_Sheet L.c_NoSplit) := by
  have T := L.T
  refine L.a_split.F.okE sc_split (fun vs H Q E h => ?_) (fun cdv A outer s H vs Q E hr h => ?_)
  · obtain ⟨x, a, many, desk, w, ns, hs, ws, lns, rfl, _⟩ := h
    rfl
  · obtain ⟨x, a, many, desk, w, ns, hs, ws, lns, rfl, S, hA, hnl, W, m0, m1, k⟩ := h
    refine ⟨_, (pss_cons (ps_if (pt_not (pt_val (pe_call (ok_is_number_of L) (hr.mono (by decide)) rfl L.a_is_number_of.g L.a_is_number_of.F.kp L.a_is_number_of.b .nil pass0 (pa_cons (pv 2) (pa_cons (pe_fld (pv 0) rfl) pa_nil))))) (pss_one (ps_raise0 takes_fn rfl L.U_NoSplit L.hi_NoSplit rfl L.g_NoSplit (pa_cons pe_str pa_nil))) pss_nil)
        (pss_cons (ps_set (i := 5) sc_split.nd rfl (Or.inr rfl) (pe_ix ix_list (pe_fld (pv 0) rfl) (pv 2) (fun _ _ => rfl)))
        (pss_cons (ps_if (pt_not (pt_val (pe_callB (call_all rfl) (by rfl) T.all bAll (pa_cons (pe_comp rfl (blockOk_of (sc := defScope (top 24)) (N := ["sheet", "many", "desk", "numbers", "weight", "line", "chosen", "others", "rest", "lines", "weights", "twin"]) (ys := ["line"]) (ix := [5]) rfl rfl (by decide +kernel)) (pi_list (pv 3)) (fun _ _ _ _ _ _ => pts_nil) (fun _ _ _ _ _ _ => (pe_call (ok_is_number_of L) (hr.mono (by decide)) rfl L.a_is_number_of.g L.a_is_number_of.F.kp L.a_is_number_of.b .nil pass0 (pa_cons (pv 0) (pa_cons (pv 1) pa_nil))))) pa_nil)))) (pss_one (ps_raise0 takes_fn rfl L.U_NoSplit L.hi_NoSplit rfl L.g_NoSplit (pa_cons pe_str pa_nil))) pss_nil)
        (pss_cons (ps_setComp2 (i := 6) rfl (blockOk_of (sc := defScope (top 24)) (N := ["sheet", "many", "desk", "numbers", "weight", "line", "chosen", "others", "rest", "lines", "weights", "twin"]) (ys := ["numbers"]) (ix := [3]) rfl rfl (by decide +kernel)) sc_split.nd rfl rfl (blockOk_of (sc := defScope (top 24)) (N := ["sheet", "many", "desk", "numbers", "weight", "line", "chosen", "others", "rest", "lines", "weights", "twin"]) (ys := ["numbers"]) (ix := [3]) rfl rfl (by decide +kernel)) (by decide) (pi_enum (by rfl) T.enum (pa_cons (pv 5) pa_nil)) (fun _ _ _ _ _ _ => pts_one (pt_cmpR (op_in_seqK (K := K) rfl) (pv 0) (pv 2) rfl)) (fun _ _ _ _ _ _ => (pv 1)))
        (pss_cons (ps_setComp2 (i := 7) rfl (blockOk_of (sc := defScope (top 24)) (N := ["sheet", "many", "desk", "numbers", "weight", "line", "chosen", "others", "rest", "lines", "weights", "twin"]) (ys := ["numbers"]) (ix := [3]) rfl rfl (by decide +kernel)) sc_split.nd rfl rfl (blockOk_of (sc := defScope (top 24)) (N := ["sheet", "many", "desk", "numbers", "weight", "line", "chosen", "others", "rest", "lines", "weights", "twin"]) (ys := ["numbers"]) (ix := [3]) rfl rfl (by decide +kernel)) (by decide) (pi_enum (by rfl) T.enum (pa_cons (pv 5) pa_nil)) (fun _ _ _ _ _ _ => pts_one (pt_cmpR (op_notIn_seqK (K := K) rfl) (pv 0) (pv 2) rfl)) (fun _ _ _ _ _ _ => (pv 1)))
        (pss_cons (ps_set (i := 8) sc_split.nd rfl (Or.inl rfl) (pe_op op_sub (pe_ix ix_list (pe_fld (pv 0) rfl) (pv 2) (fun _ _ => rfl)) (pv 4)))
        (pss_cons (ps_expr (pe_call (ok_check_part L) (hr.mono (by decide)) rfl L.a_check_part.g L.a_check_part.F.kp L.a_check_part.b .nil (passE takes_fn) (pa_cons (pv 0) (pa_cons (pv 1) (pa_cons (pv 6) (pa_cons (pv 4) pa_nil))))))
        (pss_cons (ps_expr (pe_call (ok_check_part L) (hr.mono (by decide)) rfl L.a_check_part.g L.a_check_part.F.kp L.a_check_part.b .nil (passE takes_fn) (pa_cons (pv 0) (pa_cons (pv 1) (pa_cons (pv 7) (pa_cons (pv 8) pa_nil))))))
        (pss_cons (ps_set (i := 9) sc_split.nd rfl (Or.inl rfl) (pe_op op_catR (pe_fld (pv 0) rfl) (pe_lst (pa_cons (pv 7) pa_nil))))
        (pss_cons (ps_asg (pv 6) (pg_sub (pv 9) (pv 2) set_list))
        (pss_cons (ps_set (i := 10) sc_split.nd rfl (Or.inl rfl) (pe_op op_catR (pe_fld (pv 0) rfl) (pe_lst (pa_cons (pv 8) pa_nil))))
        (pss_cons (ps_asg (pv 4) (pg_sub (pv 10) (pv 2) set_list))
        (pss_cons (ps_set (i := 11) sc_split.nd rfl (Or.inr rfl) (pe_callB call_len_seq (by rfl) T.len PySem.boot_len (pa_cons (pe_fld (pv 0) rfl) pa_nil)))
        (pss_one (ps_ret (pe_make L.mk_Sheet (ok_Sheet___init__ L) (hr.mono (by decide)) rfl L.g_Sheet L.m_Sheet___init__.b .nil pass0 (pa_cons (pe_op op_catR (pe_fld (pv 0) rfl) (pe_lst (pa_cons (pe_ix ix_list (pe_fld (pv 0) rfl) (pv 2) (fun _ _ => rfl)) pa_nil))) (pa_cons (pv 10) (pa_cons (pe_comp rfl (blockOk_of (sc := defScope (top 24)) (N := ["sheet", "many", "desk", "numbers", "weight", "line", "chosen", "others", "rest", "lines", "weights", "twin"]) (ys := ["desk", "twin"]) (ix := [2, 11]) rfl rfl (by decide +kernel)) (pi_list (pv 9)) (fun _ _ _ _ _ _ => pts_nil) (fun _ _ _ _ _ _ => (pe_call (ok_with_twins L) (hr.mono (by decide)) rfl L.a_with_twins.g L.a_with_twins.F.kp L.a_with_twins.b .nil pass0 (pa_cons (pv 0) (pa_cons (pv 1) (pa_cons (pv 2) pa_nil)))))) pa_nil))))))))))))))))))), ?_⟩
    obtain ⟨dx, ah, bw, cl, hx, rh, rw', rl⟩ := id S
    have hh := rd_strs rh
    have hw := rd_ints rw'
    obtain ⟨cl', xs, ec, hc, hcl⟩ := id rl
    cases ec
    have xl : xs.length = lns.length := by rw [hcl.len, List.length_map]
    have hn := W.n
    have hwl := W.w
    have hll := W.l
    have no : splitOk ws lns many desk ns w = false → ∀ H', Same H H' → E (.ref L.c_NoSplit) none H' := fun h => by
      rcases k with ⟨k1, _⟩ | ⟨_, k2⟩
      · rw [h] at k1; cases k1
      · exact k2
    cases h1 : numOk desk lns.length with
    | false =>
      refine ⟨_, rfl, _, rfl, x, L.c_Sheet, dx, _, _, rfl, hx, L.cl_Sheet.cl, L.cl_Sheet.n_lines, lookS_lines ah bw cl, desk, cl, xs, rfl, .inl hc, false, congrArg V.bl (by rw [xl]; exact h1), iteT ⟨rfl, no ?_ H (Same.refl _)⟩⟩
      unfold splitOk
      rw [h1, Bool.false_and]
    | true =>
    obtain ⟨d, rfl, hd⟩ : ∃ d : Nat, desk = (d : Int) ∧ d < lns.length := by
      unfold numOk at h1
      rw [Bool.and_eq_true] at h1
      have a1 := of_decide_eq_true h1.1
      have a2 := of_decide_eq_true h1.2
      exact ⟨desk.toNat, by omega, by omega⟩
    refine ⟨_, rfl, _, rfl, x, L.c_Sheet, dx, _, _, rfl, hx, L.cl_Sheet.cl, L.cl_Sheet.n_lines, lookS_lines ah bw cl, _, cl, xs, rfl, .inl hc, true, congrArg V.bl (by rw [xl]; exact h1), iteF ?_⟩
    rw [Int.toNat_natCast] at k
    -- the line
    have hdx : d < xs.length := by omega
    have hxd : xs[d]? = some xs[d] := List.getElem?_eq_getElem hdx
    obtain ⟨dd, hdd, rd⟩ := hcl.get d _ hxd
    have hld : lns[d]? = some lns[d] := List.getElem?_eq_getElem hd
    rw [List.getElem?_map, hld] at hdd
    cases hdd
    have hgd : lns.getD d [] = lns[d] := by rw [List.getD_eq_getElem?_getD, hld]; rfl
    have hqm : lns[d] ∈ lns := List.getElem_mem hd
    have hqn := W.m _ hqm
    have hqe := W.e _ hqm
    have hsO : splitOk ws lns many (d : Int) ns w = (ns.all (fun i => numOk i lns[d].length) && (partOk ws many (chosenOf ns lns[d]) w && partOk ws many (othersOf ns lns[d]) (ws.getD d 0 - w))) := by
      unfold splitOk
      rw [h1, Bool.true_and, Int.toNat_natCast, hgd]
    unfold splitL at k
    rw [hgd] at k
    rw [hsO] at k no
    refine ⟨_, rfl, x, L.c_Sheet, dx, _, _, rfl, hx, L.cl_Sheet.cl, L.cl_Sheet.n_lines, lookS_lines ah bw cl, _, rfl, cl, xs, _, xs[d], rfl, rfl, .inl hc, atI_nat hxd, ?_⟩
    obtain ⟨al, ys, el, hal, hyl⟩ := rd
    rw [el]
    have yl : ys.length = lns[d].length := by rw [hyl.len, List.length_map]
    generalize lns[d] = qs at hsO hqm hqn hqe hyl yl k no
    -- the numbers
    refine ⟨_, rfl, a, rfl, ⟨_, hA⟩, fun l1 hl1 => ?_⟩
    refine comp_map (fun v => match v with | .int i => V.bl (numOk i ys.length) | _ => .non) (itIs_list K a (ns.map V.int)) hl1 (by rw [List.length_map]; exact small16 (by omega)) (fun H' s' => s'.seq hA) (fun z H2 Q' hz s2 qq => ?_) (fun H2 s2 h2 => ?_)
    · obtain ⟨i, _, rfl⟩ := List.mem_map.mp hz
      exact ⟨_, rfl, _, rfl, i, al, ys, rfl, s2.seq (.inl hal), qq H2 (Same.refl _)⟩
    have e2 : (ns.map V.int).map (fun v => match v with | .int i => V.bl (numOk i ys.length) | _ => .non) = (ns.map fun i => numOk i qs.length).map V.bl := by
      rw [List.map_map, List.map_map, yl]
      rfl
    rw [e2] at h2
    have eall : ((ns.map fun i => numOk i qs.length).all id) = ns.all (fun i => numOk i qs.length) := by
      rw [List.all_map]
      rfl
    cases h3 : ns.all (fun i => numOk i qs.length) with
    | false =>
      refine ⟨l1, _, rfl, SqL.of h2, false, congrArg V.bl (eall.trans h3), iteT ⟨rfl, no ?_ H2 s2⟩⟩
      rw [h3, Bool.false_and]
    | true =>
    refine ⟨l1, _, rfl, SqL.of h2, true, congrArg V.bl (eall.trans h3), iteF ?_⟩
    rw [h3, Bool.true_and] at k no
    -- the chosen
    refine ⟨_, rfl, al, ys, rfl, s2.seq (.inl hal), fun lc hlc => ?_⟩
    refine comp_enum (fun i => inV (.int (i : Nat)) (ns.map V.int)) (s2.seq (.inl hal)) hlc (small16 (by omega)) (fun i y H3 Q' _ s3 qq => ?_) (fun i y H3 Q' _ s3 qq => ⟨_, rfl, qq H3 (Same.refl _)⟩) (fun H3 s3 h3c => ?_)
    · exact ⟨_, rfl, _, rfl, a, _, rfl, .inl ((s2.trans s3).seq hA), rfl, flat_ints ns, _, rfl, qq H3 (Same.refl _)⟩
    have ein : (fun i : Nat => inV (.int (i : Nat)) (ns.map V.int)) = fun i : Nat => decide ((i : Int) ∈ ns) := funext fun i => inV_ints _ ns
    rw [ein] at h3c
    have s03 := s2.trans s3
    -- the others
    refine ⟨_, rfl, al, ys, rfl, s03.seq (.inl hal), fun lo hlo => ?_⟩
    refine comp_enum (fun i => !inV (.int (i : Nat)) (ns.map V.int)) (s03.seq (.inl hal)) hlo (small16 (by omega)) (fun i y H4 Q' _ s4 qq => ?_) (fun i y H4 Q' _ s4 qq => ⟨_, rfl, qq H4 (Same.refl _)⟩) (fun H4 s4 h4o => ?_)
    · exact ⟨_, rfl, _, rfl, a, _, rfl, .inl ((s03.trans s4).seq hA), rfl, flat_ints ns, _, rfl, qq H4 (Same.refl _)⟩
    have ein2 : (fun i : Nat => !inV (.int (i : Nat)) (ns.map V.int)) = fun i : Nat => !decide ((i : Int) ∈ ns) := funext fun i => congrArg (!·) (inV_ints _ ns)
    rw [ein2] at h4o
    have s04 := s03.trans s4
    have h4c := s4 _ _ h3c
    have rC : Rds K H4 (dLine (chosenOf ns qs)) (.ref lc) := ⟨lc, _, rfl, .inl h4c, rds_pick _ (RdsL.same s04 _ _ hyl)⟩
    have rO : Rds K H4 (dLine (othersOf ns qs)) (.ref lo) := ⟨lo, _, rfl, .inl h4o, rds_pick _ (RdsL.same s04 _ _ hyl)⟩
    have cl5 : (chosenOf ns qs).length ≤ 5000 := Nat.le_trans (pickF_len _ _ _) hqn
    have ol5 : (othersOf ns qs).length ≤ 5000 := Nat.le_trans (pickF_len _ _ _) hqn
    have ce : ∀ q ∈ chosenOf ns qs, q.2 < ws.length := fun q hq => by rw [hwl]; exact hqe q (pickF_mem hq)
    have oe : ∀ q ∈ othersOf ns qs, q.2 < ws.length := fun q hq => by rw [hwl]; exact hqe q (pickF_mem hq)
    -- the rest
    have hdw : d < ws.length := by omega
    have hatw : atI (ws.map V.int) (d : Int) = some (.int (ws.getD d 0)) := atI_nat (by rw [List.getElem?_map, List.getElem?_eq_getElem hdw, List.getD_eq_getElem?_getD, List.getElem?_eq_getElem hdw]; rfl)
    refine ⟨_, rfl, x, L.c_Sheet, dx, _, _, rfl, s04 _ _ hx, L.cl_Sheet.cl, L.cl_Sheet.n_weights, lookS_weights ah bw cl, _, rfl, bw, _, _, _, rfl, rfl, s04.seq (.inl hw), hatw, _, rfl, _, _, rfl, rfl, ?_⟩
    show gName 8 (V.int (ws.getD d 0 - w)) _ _ _
    -- the parts
    have S4 := S.same s04
    refine ⟨_, rfl, _, rfl, _, rfl, _, rfl, x, many, .ref lc, w, hs, ws, lns, chosenOf ns qs, rfl, S4, rC, by omega, ce, m0, m1, ?_⟩
    cases h5 : partOk ws many (chosenOf ns qs) w with
    | false => exact .inr ⟨rfl, fun H5 s5 => no (by rw [h5, Bool.false_and]) H5 (s04.trans s5)⟩
    | true =>
    refine .inl ⟨rfl, fun H5 s5 => ?_⟩
    rw [h5, Bool.true_and] at k no
    refine ⟨_, rfl, _, rfl, _, rfl, _, rfl, x, many, .ref lo, ws.getD d 0 - w, hs, ws, lns, othersOf ns qs, rfl, S4.same s5, Rds.same s5 _ _ rO, by omega, oe, m0, m1, ?_⟩
    cases h6 : partOk ws many (othersOf ns qs) (ws.getD d 0 - w) with
    | false => exact .inr ⟨rfl, fun H6 s6 => no h6 H6 ((s04.trans s5).trans s6)⟩
    | true =>
    refine .inl ⟨rfl, fun H6 s6 => ?_⟩
    obtain ⟨_, kk⟩ : True ∧ _ := ⟨trivial, k⟩
    rcases kk with ⟨_, k⟩ | ⟨k1, _⟩
    rotate_left
    · rw [h6] at k1; cases k1
    have s46 := s5.trans s6
    have s06 := s04.trans s46
    have rC6 := Rds.same s46 _ _ rC
    have rO6 := Rds.same s46 _ _ rO
    -- the lines
    have big : ∀ n : Nat, n ≤ 20000 → n ≤ sizeLine := fun n hn => Nat.le_trans hn (by rw [sizeLine_eq]; decide)
    refine ⟨_, rfl, x, L.c_Sheet, dx, _, _, rfl, s06 _ _ hx, L.cl_Sheet.cl, L.cl_Sheet.n_lines, lookS_lines ah bw cl, _, rfl, by show 1 ≤ sizeLine; decide, fun l7 hl7 => ?_⟩
    refine ⟨cl, l7, xs, [.ref lo], rfl, rfl, rd_same (s06.trans (Same.upd hl7)) hc, .inl upd_same, big _ (by show xs.length + 1 ≤ _; omega), fun ll hll' => ?_⟩
    have s6a : Same H6 (upd H6 l7 (.lst [V.ref lo])) := Same.upd hl7
    generalize upd H6 l7 (.lst [V.ref lo]) = H6' at s6a hll'
    have s6b : Same H6' (upd H6' ll (.lst (xs ++ [V.ref lo]))) := Same.upd hll'
    have hix : ixN (xs ++ [V.ref lo]).length (d : Int) = some d := by
      have hlen : (xs ++ [V.ref lo]).length = xs.length + 1 := by rw [List.length_append]; rfl
      unfold ixN
      rw [hlen, if_pos (by omega), if_pos (by omega), Int.toNat_natCast]
    refine ⟨_, rfl, _, rfl, _, rfl, ll, _, _, d, rfl, rfl, upd_same, hix, ?_⟩
    have hl8 : (upd (upd H6' ll (.lst (xs ++ [V.ref lo]))) ll (.lst ((xs ++ [V.ref lo]).set d (V.ref lc)))) ll = some (.lst ((xs ++ [V.ref lo]).set d (V.ref lc))) := upd_same
    have s68 : Same H6 (upd (upd H6' ll (.lst (xs ++ [V.ref lo]))) ll (.lst ((xs ++ [V.ref lo]).set d (V.ref lc)))) := fun c o e => by
      have e' := s6a _ _ e
      rw [upd_ne (ne_of_none e' hll'), upd_ne (ne_of_none e' hll')]
      exact e'
    generalize upd (upd H6' ll (.lst (xs ++ [V.ref lo]))) ll (.lst ((xs ++ [V.ref lo]).set d (V.ref lc))) = H8 at hl8 s68
    have s08 := s06.trans s68
    have rL8 : RdsL K H8 (((lns ++ [othersOf ns qs]).set d (chosenOf ns qs)).map dLine) ((xs ++ [V.ref lo]).set d (V.ref lc)) := by
      have r1 : RdsL K H8 (lns.map dLine ++ [dLine (othersOf ns qs)]) (xs ++ [V.ref lo]) := rdsL_snoc (RdsL.same s08 _ _ hcl) (Rds.same s68 _ _ rO6)
      have e : ((lns ++ [othersOf ns qs]).set d (chosenOf ns qs)).map dLine = (lns.map dLine ++ [dLine (othersOf ns qs)]).set d (dLine (chosenOf ns qs)) := by
        rw [List.map_set, List.map_append]
        rfl
      rw [e]
      exact r1.set d (Rds.same s68 _ _ rC6)
    -- the weights
    refine ⟨_, rfl, x, L.c_Sheet, dx, _, _, rfl, s08 _ _ hx, L.cl_Sheet.cl, L.cl_Sheet.n_weights, lookS_weights ah bw cl, _, rfl, by show 1 ≤ sizeLine; decide, fun l9 hl9 => ?_⟩
    refine ⟨bw, l9, _, [.int (ws.getD d 0 - w)], rfl, rfl, rd_same (s08.trans (Same.upd hl9)) hw, .inl upd_same, big _ (by rw [List.length_map]; show ws.length + 1 ≤ _; omega), fun lw hlw => ?_⟩
    have s8a : Same H8 (upd H8 l9 (.lst [.int (ws.getD d 0 - w)])) := Same.upd hl9
    generalize upd H8 l9 (.lst [.int (ws.getD d 0 - w)]) = H8' at s8a hlw
    have ecat : ws.map V.int ++ [V.int (ws.getD d 0 - w)] = (ws ++ [ws.getD d 0 - w]).map V.int := by rw [List.map_append]; rfl
    rw [ecat]
    have hix2 : ixN ((ws ++ [ws.getD d 0 - w]).map V.int).length (d : Int) = some d := by
      have hlen : ((ws ++ [ws.getD d 0 - w]).map V.int).length = ws.length + 1 := by rw [List.length_map, List.length_append]; rfl
      unfold ixN
      rw [hlen, if_pos (by omega), if_pos (by omega), Int.toNat_natCast]
    refine ⟨_, rfl, _, rfl, _, rfl, lw, _, _, d, rfl, rfl, upd_same, hix2, ?_⟩
    have eset : ((ws ++ [ws.getD d 0 - w]).map V.int).set d (.int w) = (splitW ws d w).map V.int := by
      unfold splitW
      rw [List.map_set]
    rw [eset]
    have hw9 : (upd (upd H8' lw (.lst ((ws ++ [ws.getD d 0 - w]).map V.int))) lw (.lst ((splitW ws d w).map V.int))) lw = some (.lst ((splitW ws d w).map V.int)) := upd_same
    have s89 : Same H8 (upd (upd H8' lw (.lst ((ws ++ [ws.getD d 0 - w]).map V.int))) lw (.lst ((splitW ws d w).map V.int))) := fun c o e => by
      have e' := s8a _ _ e
      rw [upd_ne (ne_of_none e' hlw), upd_ne (ne_of_none e' hlw)]
      exact e'
    generalize upd (upd H8' lw (.lst ((ws ++ [ws.getD d 0 - w]).map V.int))) lw (.lst ((splitW ws d w).map V.int)) = H9 at hw9 s89
    have s09 := s08.trans s89
    -- the twin
    refine ⟨_, rfl, x, L.c_Sheet, dx, _, _, rfl, s09 _ _ hx, L.cl_Sheet.cl, L.cl_Sheet.n_lines, lookS_lines ah bw cl, cl, xs, rfl, .inl (s09.seq (.inl hc)), ?_⟩
    rw [xl]
    -- the sheet
    have hdh : d < hs.length := by omega
    have hath : atI (hs.map V.str) (d : Int) = some (.str (hs.getD d "")) := atI_nat (by rw [List.getElem?_map, List.getElem?_eq_getElem hdh, List.getD_eq_getElem?_getD, List.getElem?_eq_getElem hdh]; rfl)
    refine ⟨_, rfl, x, L.c_Sheet, dx, _, _, rfl, s09 _ _ hx, L.cl_Sheet.cl, L.cl_Sheet.n_homes, lookS_homes ah bw cl, _, rfl, x, L.c_Sheet, dx, _, _, rfl, s09 _ _ hx, L.cl_Sheet.cl, L.cl_Sheet.n_homes, lookS_homes ah bw cl, _, rfl, ah, _, _, _, rfl, rfl, s09.seq (.inl hh), hath, by show 1 ≤ sizeLine; decide, fun l10 hl10 => ?_⟩
    refine ⟨ah, l10, _, [.str (hs.getD d "")], rfl, rfl, rd_same (s09.trans (Same.upd hl10)) hh, .inl upd_same, big _ (by rw [List.length_map]; show hs.length + 1 ≤ _; omega), fun lh hlh => ?_⟩
    have s9a : Same H9 (upd H9 l10 (.lst [.str (hs.getD d "")])) := Same.upd hl10
    generalize upd H9 l10 (.lst [.str (hs.getD d "")]) = H9' at s9a hlh
    have ecath : hs.map V.str ++ [V.str (hs.getD d "")] = (splitH hs d).map V.str := by unfold splitH; rw [List.map_append]; rfl
    rw [ecath]
    have s9b := s9a.trans (Same.upd (o := .lst ((splitH hs d).map V.str)) hlh)
    have hh10 : (upd H9' lh (.lst ((splitH hs d).map V.str))) lh = some (.lst ((splitH hs d).map V.str)) := upd_same
    generalize upd H9' lh (.lst ((splitH hs d).map V.str)) = H10 at s9b hh10
    have s8_10 := s89.trans s9b
    have hl10' := s8_10 _ _ hl8
    have rL10 := RdsL.same s8_10 _ _ rL8
    have zl : ((xs ++ [V.ref lo]).set d (V.ref lc)).length = lns.length + 1 := by rw [List.length_set, List.length_append, xl]; rfl
    refine ⟨_, rfl, _, rfl, ll, rfl, ⟨_, SqL.of hl10'⟩, fun lt hlt => ?_⟩
    have hm5 : ∀ l ∈ (lns ++ [othersOf ns qs]).set d (chosenOf ns qs), l.length ≤ 5000 := fun l hl => by
      rcases List.mem_or_eq_of_mem_set hl with z | z
      · rcases List.mem_append.mp z with z | z
        · exact W.m l z
        · rw [List.mem_singleton.mp z]; exact ol5
      · rw [z]; exact cl5
    refine comp_new (K := K) ((((lns ++ [othersOf ns qs]).set d (chosenOf ns qs)).map (twins d lns.length)).map dLine) (itIs_list K ll ((xs ++ [V.ref lo]).set d (V.ref lc))) hlt (big _ (by rw [zl]; omega)) (by rw [List.length_map, List.length_map, List.length_set, List.length_append, zl]; rfl) (fun H' s' => SqL.of (s' _ _ hl10')) (fun i y dt H11 Q' hy hd' s11 qq => ?_) (fun H11 s11 r11 => ?_)
    · obtain ⟨d', e', r⟩ := rL10.get i y hy
      rw [List.getElem?_map] at e' hd'
      rw [List.getElem?_map] at hd'
      cases e : ((lns ++ [othersOf ns qs]).set d (chosenOf ns qs))[i]? with
      | none => rw [e] at e'; cases e'
      | some l =>
        rw [e] at e' hd'
        cases e'
        cases hd'
        exact ⟨_, rfl, _, rfl, _, rfl, y, d, lns.length, l, rfl, Rds.same s11 _ _ r, hm5 l (List.mem_of_getElem? e), fun z H12 s12 r12 => qq z H12 s12 r12⟩
    -- the object
    intro y dy ny ndy ney
    have sm : Same H11 (upd (upd H11 dy (.own y)) y (.ins L.c_Sheet dy [])) := made_same ny ndy
    have s0_10 := s09.trans s9b
    refine ⟨y, dy, .ref lh, .ref lw, .ref lt, splitH hs d, splitW ws d w, ((lns ++ [othersOf ns qs]).set d (chosenOf ns qs)).map (twins d lns.length), rfl, upd_same, strs_rds (sm _ _ (s11 _ _ hh10)), ints_rds (sm _ _ (s11 _ _ (s9b _ _ hw9))), Rds.same ((newIn_sub _ _).trans sm) _ _ r11, ?_, ?_, ?_, ?_, fun a' b' c' H12 hy12 q1 q2 q3 kp12 => ⟨rfl, ?_⟩⟩
    · unfold splitH; rw [List.length_append]; show hs.length + 1 ≤ _; omega
    · unfold splitW; rw [List.length_set, List.length_append]; show ws.length + 1 ≤ _; omega
    · rw [List.length_map, List.length_set, List.length_append]; show lns.length + 1 ≤ _; omega
    · intro l hl
      obtain ⟨l', hl', rfl⟩ := List.mem_map.mp hl
      have := twins_len d lns.length l'
      have := hm5 l' hl'
      omega
    · have s12 : Same H11 H12 := fun c o e => kp12 _ _ (sm _ _ e) (ne_of_none e ny)
      refine k y H12 (s0_10.trans (s11.trans s12)) ?_
      have hy0 : H y = none := none_of (s0_10.trans s11) ny
      have nw := fun (dd : Dat) (v : V) (r : Rds K (newIn _ H12) dd v) => Rds.same (newIn_old ((s0_10.trans s11).trans sm)) dd v r
      exact ⟨dy, a', b', c', newIn_at hy0 hy12, nw _ _ q1, nw _ _ q2, nw _ _ q3⟩
end
end K32

set_option Elab.async false
set_option linter.all false
set_option maxRecDepth 100000
set_option maxHeartbeats 4000000
namespace K32
open PySem L2 Bs Sx
section
variable {P : Program} {w : World} {K : PySem.W.Frag} {mg : Str → Option Value} {base : Heap}
def spOth32 (CN : Addr) : Sp := fun vs H Q _ => ∃ e, vs = [.ref e] ∧ H e = some (XC e CN none) ∧ Q (.bl false) H
theorem sc__law_others : FnScope ["_law_e"] ["_law_e"] (defScope (top 34)) := ⟨rfl, rfl, rfl, by decide +kernel, rfl, by decide +kernel, by decide +kernel⟩
theorem ok__law_others (L : Lk K mg) : FnOk P w K mg base CX0 1 L.f__law_others L.d__law_others ["_law_e"] (spOth32 L.c_NoSplit) := by
  have T := L.T
  refine L.a__law_others.F.ok sc__law_others (fun vs H Q E h => ?_) (fun cdv A outer s H vs Q E hr h => ?_)
  · obtain ⟨e, rfl, _⟩ := h
    rfl
  · obtain ⟨e, rfl, hE, k⟩ := h
    refine ⟨_, (pss_cons (ps_if (PW.pt (pw_or (pt_val (pe_callB call_isiX (by rfl) T.isi bIsi (pa_cons (pv 0) (pa_cons (pe_glob (v := .ref L.c_Barred) (by rfl) L.g_Barred rfl) pa_nil)))) (pw_or (pt_val (pe_callB call_isiX (by rfl) T.isi bIsi (pa_cons (pv 0) (pa_cons (pe_glob (v := .ref L.c_NoBand) (by rfl) L.g_NoBand rfl) pa_nil)))) (pw_or (pt_val (pe_callB call_isiX (by rfl) T.isi bIsi (pa_cons (pv 0) (pa_cons (pe_glob (v := .ref L.c_NoData) (by rfl) L.g_NoData rfl) pa_nil)))) (pw_or1 (pt_val (pe_callB call_isiX (by rfl) T.isi bIsi (pa_cons (pv 0) (pa_cons (pe_glob (v := .ref L.c_NoForm) (by rfl) L.g_NoForm rfl) pa_nil))))))))) (pss_one (ps_ret pe_bl)) pss_nil)
        (pss_cons (ps_if (PW.pt (pw_or (pt_val (pe_callB call_isiX (by rfl) T.isi bIsi (pa_cons (pv 0) (pa_cons (pe_glob (v := .ref L.c_NoLength) (by rfl) L.g_NoLength rfl) pa_nil)))) (pw_or (pt_val (pe_callB call_isiX (by rfl) T.isi bIsi (pa_cons (pv 0) (pa_cons (pe_glob (v := .ref L.c_NoNumber) (by rfl) L.g_NoNumber rfl) pa_nil)))) (pw_or (pt_val (pe_callB call_isiX (by rfl) T.isi bIsi (pa_cons (pv 0) (pa_cons (pe_glob (v := .ref L.c_NoPlace) (by rfl) L.g_NoPlace rfl) pa_nil)))) (pw_or1 (pt_val (pe_callB call_isiX (by rfl) T.isi bIsi (pa_cons (pv 0) (pa_cons (pe_glob (v := .ref L.c_NoRate) (by rfl) L.g_NoRate rfl) pa_nil))))))))) (pss_one (ps_ret pe_bl)) pss_nil)
        (pss_cons (ps_if (PW.pt (pw_or (pt_val (pe_callB call_isiX (by rfl) T.isi bIsi (pa_cons (pv 0) (pa_cons (pe_glob (v := .ref L.c_NoRow) (by rfl) L.g_NoRow rfl) pa_nil)))) (pw_or (pt_val (pe_callB call_isiX (by rfl) T.isi bIsi (pa_cons (pv 0) (pa_cons (pe_glob (v := .ref L.c_NoSigns) (by rfl) L.g_NoSigns rfl) pa_nil)))) (pw_or (pt_val (pe_callB call_isiX (by rfl) T.isi bIsi (pa_cons (pv 0) (pa_cons (pe_glob (v := .ref L.c_NoWord) (by rfl) L.g_NoWord rfl) pa_nil)))) (pw_or1 (pt_val (pe_callB call_isiX (by rfl) T.isi bIsi (pa_cons (pv 0) (pa_cons (pe_glob (v := .ref L.c_NoWriter) (by rfl) L.g_NoWriter rfl) pa_nil))))))))) (pss_one (ps_ret pe_bl)) pss_nil)
        (pss_one (ps_ret (pe_or (pe_callB call_isiX (by rfl) T.isi bIsi (pa_cons (pv 0) (pa_cons (pe_glob (v := .ref L.c_Open) (by rfl) L.g_Open rfl) pa_nil))) (pe_or (pe_callB call_isiX (by rfl) T.isi bIsi (pa_cons (pv 0) (pa_cons (pe_glob (v := .ref L.c_Scarce) (by rfl) L.g_Scarce rfl) pa_nil))) (pe_one (pe_callB call_isiX (by rfl) T.isi bIsi (pa_cons (pv 0) (pa_cons (pe_glob (v := .ref L.c_TooMany) (by rfl) L.g_TooMany rfl) pa_nil))))))))))), ?_⟩
    have hD : ∀ d', (none : Option Addr) = some d' → ∃ fs, H d' = some (.xd fs) := fun d' z => by cases z
    refine ⟨_, rfl, _, _, false, rfl, .exc hE hD L.U_NoSplit L.Y_NoSplit (kit_diffR L.U_NoSplit L.V_Barred L.XT (by decide +kernel) (by decide +kernel)), false, rfl, iteF ?_⟩
    refine ⟨_, rfl, _, _, false, rfl, .exc hE hD L.U_NoSplit L.Y_NoSplit (kit_diffR L.U_NoSplit L.V_NoBand L.XT (by decide +kernel) (by decide +kernel)), false, rfl, iteF ?_⟩
    refine ⟨_, rfl, _, _, false, rfl, .exc hE hD L.U_NoSplit L.Y_NoSplit (kit_diffR L.U_NoSplit L.V_NoData L.XT (by decide +kernel) (by decide +kernel)), false, rfl, iteF ?_⟩
    refine ⟨_, rfl, _, _, false, rfl, .exc hE hD L.U_NoSplit L.Y_NoSplit (kit_diffR L.U_NoSplit L.V_NoForm L.XT (by decide +kernel) (by decide +kernel)), false, rfl, iteF ?_⟩
    refine ⟨_, rfl, _, _, false, rfl, .exc hE hD L.U_NoSplit L.Y_NoSplit (kit_diffR L.U_NoSplit L.V_NoLength L.XT (by decide +kernel) (by decide +kernel)), false, rfl, iteF ?_⟩
    refine ⟨_, rfl, _, _, false, rfl, .exc hE hD L.U_NoSplit L.Y_NoSplit (kit_diffR L.U_NoSplit L.V_NoNumber L.XT (by decide +kernel) (by decide +kernel)), false, rfl, iteF ?_⟩
    refine ⟨_, rfl, _, _, false, rfl, .exc hE hD L.U_NoSplit L.Y_NoSplit (kit_diffR L.U_NoSplit L.V_NoPlace L.XT (by decide +kernel) (by decide +kernel)), false, rfl, iteF ?_⟩
    refine ⟨_, rfl, _, _, false, rfl, .exc hE hD L.U_NoSplit L.Y_NoSplit (kit_diffR L.U_NoSplit L.V_NoRate L.XT (by decide +kernel) (by decide +kernel)), false, rfl, iteF ?_⟩
    refine ⟨_, rfl, _, _, false, rfl, .exc hE hD L.U_NoSplit L.Y_NoSplit (kit_diffR L.U_NoSplit L.V_NoRow L.XT (by decide +kernel) (by decide +kernel)), false, rfl, iteF ?_⟩
    refine ⟨_, rfl, _, _, false, rfl, .exc hE hD L.U_NoSplit L.Y_NoSplit (kit_diffR L.U_NoSplit L.V_NoSigns L.XT (by decide +kernel) (by decide +kernel)), false, rfl, iteF ?_⟩
    refine ⟨_, rfl, _, _, false, rfl, .exc hE hD L.U_NoSplit L.Y_NoSplit (kit_diffR L.U_NoSplit L.V_NoWord L.XT (by decide +kernel) (by decide +kernel)), false, rfl, iteF ?_⟩
    refine ⟨_, rfl, _, _, false, rfl, .exc hE hD L.U_NoSplit L.Y_NoSplit (kit_diffR L.U_NoSplit L.V_NoWriter L.XT (by decide +kernel) (by decide +kernel)), false, rfl, iteF ?_⟩
    refine ⟨_, rfl, _, _, false, rfl, .exc hE hD L.U_NoSplit L.Y_NoSplit (kit_diffR L.U_NoSplit L.V_Open L.XT (by decide +kernel) (by decide +kernel)), false, rfl, iteF ?_⟩
    refine ⟨_, rfl, _, _, false, rfl, .exc hE hD L.U_NoSplit L.Y_NoSplit (kit_diffR L.U_NoSplit L.V_Scarce L.XT (by decide +kernel) (by decide +kernel)), false, rfl, iteF ?_⟩
    exact ⟨_, rfl, _, _, false, rfl, .exc hE hD L.U_NoSplit L.Y_NoSplit (kit_diffR L.U_NoSplit L.V_TooMany L.XT (by decide +kernel) (by decide +kernel)), k⟩
def spRef32 (K : PySem.W.Frag) (CS : Addr) : Sp := fun vs H Q _ => ∃ (x a : Addr) (many desk w : Int) (ns : List Int) (hs : List Str) (ws : List Int) (lns : List (List (Str × Nat))), vs = [.ref x, .int many, .int desk, .ref a, .int w] ∧ SheetAt K CS H x hs ws lns ∧ SqL K H a (ns.map V.int) ∧ ns.length ≤ 10000 ∧ Whole hs ws lns ∧ 0 ≤ many ∧ many ≤ 1000 ∧ splitOk ws lns many desk ns w = false ∧ ∀ (H' : Hp), Same H H' → Q (.bl true) H'
theorem sc__law_is_refused : FnScope ["_law_sheet_here", "_law_many", "_law_desk", "_law_numbers", "_law_weight", "_law_caught", "_law_e"] ["_law_sheet_here", "_law_many", "_law_desk", "_law_numbers", "_law_weight"] (defScope (top 35)) := ⟨rfl, rfl, rfl, by decide +kernel, rfl, by decide +kernel, by decide +kernel⟩
theorem ok__law_is_refused (L : Lk K mg) : FnOk P w K mg base CX0 5 L.f__law_is_refused L.d__law_is_refused ["_law_sheet_here", "_law_many", "_law_desk", "_law_numbers", "_law_weight"] (spRef32 K L.c_Sheet) := by
  have T := L.T
  refine L.a__law_is_refused.F.ok sc__law_is_refused (fun vs H Q E h => ?_) (fun cdv A outer s H vs Q E hr h => ?_)
  · obtain ⟨x, a, many, desk, w, ns, hs, ws, lns, rfl, _⟩ := h
    rfl
  · obtain ⟨x, a, many, desk, w, ns, hs, ws, lns, rfl, S, hA, hnl, W, m0, m1, hno, k⟩ := h
    refine ⟨_, (pss_cons (ps_set (i := 5) sc__law_is_refused.nd rfl (Or.inl rfl) pe_non)
        (pss_cons (ps_try ⟨rfl, rfl⟩ (pssx_one (psx_expr (pex_call (ok_split L) (hr.mono (by decide)) rfl L.a_split.g L.a_split.F.kp L.a_split.b (pa_cons (pv 0) (pa_cons (pv 1) (pa_cons (pv 2) (pa_cons (pv 3) (pa_cons (pv 4) pa_nil)))))))) rfl L.g_BandError L.XT sc__law_is_refused.nd (j := 6) (i := 5) rfl rfl rfl (Or.inl rfl))
        (pss_one (ps_ret (pe_and (pe_callB call_isiX (by rfl) T.isi bIsi (pa_cons (pv 5) (pa_cons (pe_glob (v := .ref L.c_NoSplit) (by rfl) L.g_NoSplit rfl) pa_nil))) (pe_and (pe_callB call_isiX (by rfl) T.isi bIsi (pa_cons (pv 5) (pa_cons (pe_bltn (v := .ty "ValueError") (by rfl) T.ValueError bVE rfl) pa_nil))) (pe_one (pe_not (pe_call (ok__law_others L) (hr.mono (by decide)) rfl L.a__law_others.g L.a__law_others.F.kp L.a__law_others.b .nil pass0 (pa_cons (pv 5) pa_nil)))))))))), ?_⟩
    refine ⟨_, rfl, _, rfl, _, rfl, _, rfl, _, rfl, x, a, many, desk, w, ns, hs, ws, lns, rfl, S, hA, hnl, W, m0, m1, .inr ⟨hno, fun H1 s1 => ?_⟩⟩
    refine ⟨L.c_NoSplit, _, rfl, L.U_NoSplit, fun e he => ?_⟩
    have hE : (upd H1 e (XC e L.c_NoSplit none)) e = some (XC e L.c_NoSplit none) := upd_same
    have s2 := s1.trans (Same.upd (o := XC e L.c_NoSplit none) he)
    generalize upd H1 e (XC e L.c_NoSplit none) = H2 at hE s2 ⊢
    have hD : ∀ d', (none : Option Addr) = some d' → ∃ fs, H2 d' = some (.xd fs) := fun d' z => by cases z
    refine ⟨_, rfl, _, _, true, rfl, .exc hE hD L.U_NoSplit L.Y_NoSplit kit_same, true, rfl, iteT ?_⟩
    refine ⟨_, rfl, _, _, true, rfl, .val hE hD L.U_NoSplit L.Y_NoSplit (kit_value L.U_NoSplit), true, rfl, iteT ?_⟩
    exact ⟨_, rfl, e, rfl, hE, false, rfl, k H2 s2⟩
end
end K32

set_option Elab.async false
set_option linter.all false
set_option maxRecDepth 100000
set_option maxHeartbeats 4000000
namespace K32
open PySem L2 Bs Sx
section
variable {P : Program} {w : World} {K : PySem.W.Frag} {mg : Str → Option Value} {base : Heap}
theorem sc__law_nth : FnScope ["_law_script", "_law_k", "_law_cell"] ["_law_script", "_law_k"] (defScope (top 26)) := ⟨rfl, rfl, rfl, by decide +kernel, rfl, by decide +kernel, by decide +kernel⟩
theorem ok__law_nth (L : Lk K mg) : FnOk P w K mg base CX0 1 L.f__law_nth L.d__law_nth ["_law_script", "_law_k"] (spNth K) := by
  have T := L.T
  refine L.a__law_nth.F.ok sc__law_nth (fun vs H Q E h => ?_) (fun cdv A outer s H vs Q E hr h => ?_)
  · obtain ⟨a, ns, p, rfl, _⟩ := h
    rfl
  · obtain ⟨a, ns, p, rfl, hS, k⟩ := h
    refine ⟨_, (pss_cons (ps_for PassesOwn.never rfl (pi_list (pe_slice sl_list (pv 0) (po_some (pv 1)) (po_some (pe_op op_add (pv 1) pe_int)))) (pg_name (i := 2) sc__law_nth.nd rfl (Or.inl rfl)) (pss_one (ps_ret (pv 2))))
        (pss_one (ps_ret pe_int))), ?_⟩
    refine ⟨_, rfl, _, rfl, _, rfl, _, rfl, _, _, rfl, rfl, _, rfl, a, _, rfl, hS, fun l hl => ?_⟩
    obtain ⟨ms, em, _⟩ := cut_ints ns (some p) (some (p + 1))
    rw [em]
    have s1 : Same H (upd H l (.lst (ms.map V.int))) := Same.upd hl
    refine ⟨l, rfl, ⟨_, SqL.of upd_same⟩, for_list (K := K) (a := l) (xs := ms.map V.int) (fun i σ H2 => H2 = upd H l (.lst (ms.map V.int)) ∧ ∃ v2, σ = [some (.ref a), some (.int p), v2]) ⟨rfl, none, rfl⟩ (fun i σ H2 _ q => by rw [q.1]; exact SqL.of upd_same) ?_ ?_⟩
    · rintro i y σ H2 hy ⟨rfl, v2, rfl⟩
      obtain ⟨c, _, rfl⟩ := List.mem_map.mp (List.mem_of_getElem? hy)
      exact ⟨_, rfl, k c _ s1⟩
    · rintro σ H2 ⟨rfl, v2, rfl⟩
      exact k 0 _ s1
theorem sc__law_mixed : FnScope ["_law_cell", "_law_turn", "_law_many", "_law_digits", "_law_step", "_law_low", "_law_high", "_law_number"] ["_law_cell", "_law_turn", "_law_many"] (defScope (top 27)) := ⟨rfl, rfl, rfl, by decide +kernel, rfl, by decide +kernel, by decide +kernel⟩
theorem ok__law_mixed (L : Lk K mg) : FnOk P w K mg base CX0 1 L.f__law_mixed L.d__law_mixed ["_law_cell", "_law_turn", "_law_many"] spDraw := by
  have T := L.T
  refine L.a__law_mixed.F.ok sc__law_mixed (fun vs H Q E h => ?_) (fun cdv A outer s H vs Q E hr h => ?_)
  · obtain ⟨c, t, m, rfl, _⟩ := h
    rfl
  · obtain ⟨c, t, m, rfl, ht0, ht1, hm, k⟩ := h
    refine ⟨_, (pss_cons (ps_if (pt_cmpR op_eq (pe_op op_mod (pv 0) pe_int) pe_int (nomark _)) (pss_cons (ps_set (i := 3) sc__law_mixed.nd rfl (Or.inl rfl) (pe_op op_fdiv (pe_callB call_abs (by rfl) T.abs bAbs (pa_cons (pv 0) pa_nil)) pe_int))
        (pss_cons (ps_for PassesOwn.never rfl (pi_range1 rfl T.range (pa_cons (pv 1) pa_nil)) (pg_name (i := 4) sc__law_mixed.nd rfl (Or.inl rfl)) (pss_one (ps_set (i := 3) sc__law_mixed.nd rfl (Or.inl rfl) (pe_op op_fdiv (pv 3) pe_int))))
        (pss_one (ps_ret (pe_op op_mod (pe_op op_mod (pv 3) pe_int) (pv 2)))))) pss_nil)
        (pss_cons (ps_set (i := 5) sc__law_mixed.nd rfl (Or.inl rfl) (pe_op op_mod (pv 0) pe_int))
        (pss_cons (ps_set (i := 6) sc__law_mixed.nd rfl (Or.inl rfl) (pe_op op_mod (pe_op op_fdiv (pv 0) pe_int) pe_int))
        (pss_cons (ps_set (i := 7) sc__law_mixed.nd rfl (Or.inl rfl) (pe_op op_add (pe_op op_mul (pv 5) (pe_op op_add pe_int (pe_op op_mul (pv 1) pe_int))) (pe_op op_mul (pv 6) (pe_op op_add (pv 1) pe_int))))
        (pss_cons (ps_set (i := 7) sc__law_mixed.nd rfl (Or.inl rfl) (pe_op op_mod (pe_op op_add (pe_op op_add (pv 7) (pe_op op_mul (pe_op op_mul (pv 1) (pv 1)) pe_int)) pe_int) pe_int))
        (pss_one (ps_ret (pe_op op_mod (pe_op op_mod (pe_op op_mul (pv 7) (pv 7)) pe_int) (pv 2))))))))), ?_⟩
    refine ⟨_, rfl, _, _, rfl, rfl, (by show (0 : Int) < 2; decide), rfl, _, rfl, ?_⟩
    refine ite2 (fun _ => ?_) (fun _ => ?_)
    · refine ⟨_, rfl, c, rfl, _, _, rfl, rfl, ⟨by decide, by decide⟩, ?_⟩
      refine ⟨_, rfl, _, rfl, by omega, by omega, for_range (lo := 0) (n := t.toNat) (fun i σ H2 => H2 = H ∧ ∃ dg v4, σ = [some (.int c), some (.int t), some (.int m), some (.int dg), v4, none, none, none]) ⟨rfl, _, none, rfl⟩ ?_ ?_⟩
      · rintro i σ H2 hi ⟨rfl, dg, v4, rfl⟩
        exact ⟨_, rfl, _, _, rfl, rfl, ⟨by decide, by decide⟩, rfl, _, _, rfl⟩
      · rintro σ H2 ⟨rfl, dg, v4, rfl⟩
        exact ⟨_, rfl, _, _, rfl, rfl, (by show (0 : Int) < 1000003; decide), _, rfl, _, _, rfl, rfl, hm, k _ (Int.emod_nonneg _ (by omega)) (Int.emod_lt_of_pos _ hm)⟩
    · refine ⟨_, rfl, _, _, rfl, rfl, (by show (0 : Int) < 998244353; decide), ?_⟩
      have l0 := Int.emod_nonneg c (show (998244353 : Int) ≠ 0 by decide)
      have l1 := Int.emod_lt_of_pos c (show (0 : Int) < 998244353 by decide)
      generalize c % 998244353 = lw at l0 l1 ⊢
      refine ⟨_, rfl, _, _, rfl, rfl, ⟨by decide, by decide⟩, _, _, rfl, rfl, (by show (0 : Int) < 1000000007; decide), ?_⟩
      have g0 := Int.emod_nonneg (c / 998244353) (show (1000000007 : Int) ≠ 0 by decide)
      have g1 := Int.emod_lt_of_pos (c / 998244353) (show (0 : Int) < 1000000007 by decide)
      generalize c / 998244353 % 1000000007 = hg at g0 g1 ⊢
      refine ⟨_, rfl, _, rfl, _, _, rfl, rfl, .inr ⟨by decide, by decide⟩, _, _, rfl, rfl, _, _, rfl, rfl, .inl ⟨by omega, by omega⟩, _, rfl, _, rfl, _, _, rfl, rfl, _, _, rfl, rfl, .inl ⟨by omega, by omega⟩, _, _, rfl, rfl, ?_⟩
      generalize lw * (4099 + t * 30) + hg * (t + 2) = nn
      refine ⟨_, rfl, _, rfl, _, rfl, _, _, rfl, rfl, .inl ⟨by omega, by omega⟩, _, _, rfl, rfl, .inr ⟨by decide, by decide⟩, _, _, rfl, rfl, _, _, rfl, rfl, _, _, rfl, rfl, (by show (0 : Int) < 1000000007; decide), ?_⟩
      have n0 := Int.emod_nonneg (nn + t * t * 104729 + 31) (show (1000000007 : Int) ≠ 0 by decide)
      have n1 := Int.emod_lt_of_pos (nn + t * t * 104729 + 31) (show (0 : Int) < 1000000007 by decide)
      generalize (nn + t * t * 104729 + 31) % 1000000007 = mm at n0 n1 ⊢
      exact ⟨_, rfl, _, rfl, _, _, rfl, rfl, .inl ⟨by omega, by omega⟩, _, _, rfl, rfl, (by show (0 : Int) < 1000000007; decide), _, rfl, _, _, rfl, rfl, hm, k _ (Int.emod_nonneg _ (by omega)) (Int.emod_lt_of_pos _ hm)⟩
end
end K32

set_option Elab.async false
set_option linter.all false
set_option maxRecDepth 100000
set_option maxHeartbeats 4000000
namespace K32
open PySem L2 Bs Sx
section
variable {P : Program} {w : World} {K : PySem.W.Frag} {mg : Str → Option Value} {base : Heap}
def dSheet (hs : List Str) (ws : List Int) (lns : List (List (Str × Nat))) : Dat := .tup [dStrs hs, dInts ws, dLines lns]
structure S32 (m : Nat) (hs : List Str) (ws : List Int) (lns : List (List (Str × Nat))) : Prop where
  w : ws.length = hs.length
  l : lns.length = hs.length
  o : 1 ≤ hs.length
  n : hs.length ≤ 5
  p : ∀ w ∈ ws, 2 ≤ w ∧ w ≤ 3
  e : ∀ l ∈ lns, ∀ q ∈ l, q.2 < hs.length
  m : ∀ l ∈ lns, l.length = 2 * m
theorem ints_of {R : Int → Prop} : ∀ {ys : List V}, (∀ y ∈ ys, ∃ t, y = .int t ∧ R t) → ∃ ts : List Int, ys = ts.map V.int ∧ ∀ t ∈ ts, R t
  | [], _ => ⟨[], rfl, fun _ h => nomatch h⟩
  | y :: ys, h => by
    obtain ⟨t, rfl, ht⟩ := h y (List.mem_cons_self ..)
    obtain ⟨ts, rfl, hts⟩ := ints_of (R := R) (ys := ys) fun y hy => h y (List.mem_cons_of_mem _ hy)
    refine ⟨t :: ts, rfl, fun z hz => ?_⟩
    rcases List.mem_cons.mp hz with e | hz
    · rw [e]; exact ht
    · exact hts z hz
def spLSheet32 (K : PySem.W.Frag) : Sp := fun vs H Q _ => ∃ (c : Int) (m : Nat), vs = [.int c, .int (m : Int)] ∧ 2 ≤ m ∧ m ≤ 8 ∧ ∀ (p : Addr) (hs : List Str) (ws : List Int) (lns : List (List (Str × Nat))) (H' : Hp), Same H H' → Rds K H' (dSheet hs ws lns) (.ref p) → S32 m hs ws lns → Q (.ref p) H'
theorem mul2 (c : Nat) (n : Int) (h0 : 0 ≤ n) (h2 : n < 3) : MulOk (⟨#[c]⟩ : Str) n := by
  have : n = 0 ∨ n = 1 ∨ n = 2 := by omega
  rcases this with rfl | rfl | rfl
  · exact ⟨by show (decide ((0 : Int) < -2 ^ 63) || decide ((0 : Int) ≥ 2 ^ 63)) = false; decide, fun h _ => by exact absurd h (by decide), fun h _ => by exact absurd h (by decide)⟩
  · exact ⟨by show (decide ((1 : Int) < -2 ^ 63) || decide ((1 : Int) ≥ 2 ^ 63)) = false; decide, fun _ _ => by show ¬ (((1 : Nat) : Int) > (2 ^ 63 - 1) / 1); decide, fun _ _ => by show Builtin.Str.tooLong (1 * 1) = false; decide⟩
  · exact ⟨by show (decide ((2 : Int) < -2 ^ 63) || decide ((2 : Int) ≥ 2 ^ 63)) = false; decide, fun _ _ => by show ¬ (((1 : Nat) : Int) > (2 ^ 63 - 1) / 2); decide, fun _ _ => by show Builtin.Str.tooLong (1 * 2) = false; decide⟩
theorem ab_at (d : Int) (h0 : 0 ≤ d) (h1 : d < 2) : ∃ c : Nat, atI (("ab" : Str).cps.toList) d = some c := by
  have : d = 0 ∨ d = 1 := by omega
  rcases this with rfl | rfl
  · exact ⟨97, by decide +kernel⟩
  · exact ⟨98, by decide +kernel⟩
theorem sc__law_sheet : FnScope ["_law_cell", "_law_many", "_law_desks", "_law_homes", "_law_weights", "_law_lines", "_law_desk", "_law_line", "_law_k", "_law_letters", "_law_word"] ["_law_cell", "_law_many"] (defScope (top 28)) := ⟨rfl, rfl, rfl, by decide +kernel, rfl, by decide +kernel, by decide +kernel⟩
theorem ok__law_sheet (L : Lk K mg) : FnOk P w K mg base CX0 2 L.f__law_sheet L.d__law_sheet ["_law_cell", "_law_many"] (spLSheet32 K) := by
  have T := L.T
  refine L.a__law_sheet.F.ok sc__law_sheet (fun vs H Q E h => ?_) (fun cdv A outer s H vs Q E hr h => ?_)
  · obtain ⟨c, m, rfl, _⟩ := h
    rfl
  · obtain ⟨c, m, rfl, m2, m8, k⟩ := h
    refine ⟨_, (pss_cons (ps_set (i := 2) sc__law_sheet.nd rfl (Or.inl rfl) (pe_op op_add pe_int (pe_call (ok__law_mixed L) (hr.mono (by decide)) rfl L.a__law_mixed.g L.a__law_mixed.F.kp L.a__law_mixed.b .nil pass0 (pa_cons (pv 0) (pa_cons pe_int (pa_cons pe_int pa_nil))))))
        (pss_cons (ps_setComp (i := 3) rfl (blockOk_of (sc := defScope (top 28)) (N := ["_law_cell", "_law_many", "_law_desks", "_law_homes", "_law_weights", "_law_lines", "_law_desk", "_law_line", "_law_k", "_law_letters", "_law_word"]) (ys := ["_law_cell"]) (ix := [0]) rfl rfl (by decide +kernel)) sc__law_sheet.nd rfl rfl (pi_range1 rfl T.range (pa_cons (pv 2) pa_nil)) (fun _ _ _ _ _ _ => pts_nil) (fun _ _ _ _ _ _ => (pe_op op_mulS (pe_ix ix_str pe_str (pe_call (ok__law_mixed L) (hr.mono (by decide)) rfl L.a__law_mixed.g L.a__law_mixed.F.kp L.a__law_mixed.b .nil pass0 (pa_cons (pv 1) (pa_cons (pe_op op_add pe_int (pv 0)) (pa_cons pe_int pa_nil)))) (fun _ _ => rfl)) (pe_op op_mod (pv 0) pe_int))))
        (pss_cons (ps_setComp (i := 4) rfl (blockOk_of (sc := defScope (top 28)) (N := ["_law_cell", "_law_many", "_law_desks", "_law_homes", "_law_weights", "_law_lines", "_law_desk", "_law_line", "_law_k", "_law_letters", "_law_word"]) (ys := ["_law_cell"]) (ix := [0]) rfl rfl (by decide +kernel)) sc__law_sheet.nd rfl rfl (pi_range1 rfl T.range (pa_cons (pv 2) pa_nil)) (fun _ _ _ _ _ _ => pts_nil) (fun _ _ _ _ _ _ => (pe_op op_add pe_int (pe_call (ok__law_mixed L) (hr.mono (by decide)) rfl L.a__law_mixed.g L.a__law_mixed.F.kp L.a__law_mixed.b .nil pass0 (pa_cons (pv 1) (pa_cons (pe_op op_add pe_int (pv 0)) (pa_cons pe_int pa_nil)))))))
        (pss_cons (ps_set (i := 5) sc__law_sheet.nd rfl (Or.inl rfl) (pe_lst pa_nil))
        (pss_cons (ps_for PassesOwn.never rfl (pi_range1 rfl T.range (pa_cons (pv 2) pa_nil)) (pg_name (i := 6) sc__law_sheet.nd rfl (Or.inl rfl)) (pss_cons (ps_set (i := 7) sc__law_sheet.nd rfl (Or.inl rfl) (pe_lst pa_nil))
        (pss_cons (ps_for PassesOwn.never rfl (pi_range1 rfl T.range (pa_cons (pe_op op_mul pe_int (pv 1)) pa_nil)) (pg_name (i := 8) sc__law_sheet.nd rfl (Or.inl rfl)) (pss_cons (ps_set (i := 9) sc__law_sheet.nd rfl (Or.inr rfl) (pe_call (ok__law_mixed L) (hr.mono (by decide)) rfl L.a__law_mixed.g L.a__law_mixed.F.kp L.a__law_mixed.b .nil pass0 (pa_cons (pv 0) (pa_cons (pe_op op_add (pe_op op_add pe_int (pe_op op_mul pe_int (pv 6))) (pv 8)) (pa_cons pe_int pa_nil)))))
        (pss_cons (ps_set (i := 10) sc__law_sheet.nd rfl (Or.inl rfl) (pe_bm PySem.F.plainAttrs_str PySem.F.slot_str_join PySem.F.type_str_join mt_join pe_str (pa_cons (pe_comp rfl (blockOk_of (sc := defScope (top 28)) (N := ["_law_cell", "_law_many", "_law_desks", "_law_homes", "_law_weights", "_law_lines", "_law_desk", "_law_line", "_law_k", "_law_letters", "_law_word"]) (ys := ["_law_letters"]) (ix := [9]) rfl rfl (by decide +kernel)) (pi_list (pe_lst (pa_cons pe_int (pa_cons pe_int (pa_cons pe_int pa_nil))))) (fun _ _ _ _ _ _ => pts_nil) (fun _ _ _ _ _ _ => (pe_ix ix_str pe_str (pe_op op_mod (pe_op op_fdiv (pv 1) (pv 0)) pe_int) (fun _ _ => rfl)))) pa_nil)))
        (pss_one (ps_expr (pe_bm PySem.F.plainAttrs_list PySem.F.slot_list_append PySem.F.type_list_append mt_append (pv 7) (pa_cons (pe_tup (pa_cons (pv 10) (pa_cons (pe_call (ok__law_mixed L) (hr.mono (by decide)) rfl L.a__law_mixed.g L.a__law_mixed.F.kp L.a__law_mixed.b .nil pass0 (pa_cons (pv 0) (pa_cons (pe_op op_add (pe_op op_add pe_int (pe_op op_mul pe_int (pv 6))) (pv 8)) (pa_cons (pv 2) pa_nil)))) pa_nil))) pa_nil)))))))
        (pss_one (ps_expr (pe_bm PySem.F.plainAttrs_list PySem.F.slot_list_append PySem.F.type_list_append mt_append (pv 5) (pa_cons (pv 7) pa_nil)))))))
        (pss_one (ps_ret (pe_tup (pa_cons (pv 3) (pa_cons (pv 4) (pa_cons (pv 5) pa_nil))))))))))), ?_⟩
    refine ⟨_, rfl, c, 1, 5, rfl, by decide, by decide, by decide, fun d0 h0 h1 => ⟨_, _, rfl, rfl, ?_⟩⟩
    obtain ⟨n, en, n1, n6⟩ : ∃ n : Nat, 1 + d0 = (n : Int) ∧ 1 ≤ n ∧ n ≤ 5 := ⟨(1 + d0).toNat, by omega, by omega, by omega⟩
    show gName 2 (V.int (1 + d0)) _ _ _
    rw [en]
    -- the homes
    refine ⟨_, rfl, _, rfl, by omega, by omega, fun lh hlh => ?_⟩
    rw [Int.toNat_natCast]
    refine comp_rel (fun y => ∃ t, y = .str t ∧ True) (itIs_range 0 n) hlh (by rw [List.length_map, List.length_range]; exact small16 (by omega)) (fun _ _ => trivial) (fun x H5 Q' hx s5 q => ?_) (fun ys H5 s5 hlen hR h5 => ?_)
    · obtain ⟨j, hj, rfl⟩ := List.mem_map.mp hx
      have hj' : j < n := List.mem_range.mp hj
      refine ⟨_, rfl, _, rfl, _, _, rfl, rfl, c, 2 + (0 + (j : Int)), 2, rfl, by omega, by omega, by decide, fun dd q0 q1 => ?_⟩
      obtain ⟨cc, hcc⟩ := ab_at dd q0 q1
      refine ⟨"ab", dd, cc, rfl, rfl, by decide +kernel, hcc, _, rfl, _, _, rfl, rfl, (by show (0 : Int) < 3; decide), _, _, rfl, rfl, mul2 cc _ (Int.emod_nonneg _ (by decide)) (Int.emod_lt_of_pos _ (by decide)), q _ H5 ⟨_, rfl, trivial⟩ (Same.refl _)⟩
    obtain ⟨hs, rfl, _⟩ := strs_of hR
    rw [List.length_map, List.length_map, List.length_range] at hlen
    clear hR
    -- the weights
    refine ⟨_, rfl, _, rfl, by omega, by omega, fun lw hlw => ?_⟩
    rw [Int.toNat_natCast]
    refine comp_rel (fun y => ∃ t : Int, y = .int t ∧ (2 ≤ t ∧ t ≤ 3)) (itIs_range 0 n) hlw (by rw [List.length_map, List.length_range]; exact small16 (by omega)) (fun _ _ => trivial) (fun x H6 Q' hx s6 q => ?_) (fun ys H6 s6 hlen6 hR h6 => ?_)
    · obtain ⟨j, hj, rfl⟩ := List.mem_map.mp hx
      have hj' : j < n := List.mem_range.mp hj
      exact ⟨_, rfl, _, rfl, _, _, rfl, rfl, c, 10 + (0 + (j : Int)), 2, rfl, by omega, by omega, by decide, fun dd q0 q1 => ⟨_, _, rfl, rfl, q _ H6 ⟨_, rfl, by omega, by omega⟩ (Same.refl _)⟩⟩
    obtain ⟨ws, rfl, hws⟩ := ints_of hR
    rw [List.length_map, List.length_map, List.length_range] at hlen6
    clear hR
    refine ⟨Nat.zero_le _, fun ll hll => ?_⟩
    have s6b : Same H6 (upd H6 ll (.lst [])) := Same.upd hll
    have hbl : (upd H6 ll (.lst [])) ll = some (.lst []) := upd_same
    generalize upd H6 ll (.lst []) = Hb at s6b hbl
    refine ⟨_, rfl, _, rfl, by omega, by omega, ?_⟩
    rw [Int.toNat_natCast]
    refine for_range (lo := 0) (n := n) (fun i σ H3 => ∃ (v6 v7 v8 v9 v10 : Option V) (lns : List (List (Str × Nat))) (as : List V), σ = [some (.int c), some (.int (m : Int)), some (.int (n : Int)), some (.ref lh), some (.ref lw), some (.ref ll), v6, v7, v8, v9, v10] ∧ H3 ll = some (.lst as) ∧ (∀ c o, Hb c = some o → c ≠ ll → H3 c = some o) ∧ RdsL K (newIn Hb H3) (lns.map dLine) as ∧ lns.length = i ∧ (∀ l ∈ lns, ∀ q ∈ l, q.2 < n) ∧ ∀ l ∈ lns, l.length = 2 * m)
      ⟨none, none, none, none, none, [], [], rfl, hbl, fun c o e _ => e, rfl, rfl, (fun l h => nomatch h), (fun l h => nomatch h)⟩ ?_ ?_
    · rintro i σ H3 hi ⟨v6, v7, v8, v9, v10, lns, as, rfl, h3l, kk, hR, lnl, hle, hl8⟩
      refine ⟨Nat.zero_le _, fun li hli => ?_⟩
      have s4i : Same H3 (upd H3 li (.lst [])) := Same.upd hli
      have h5i : (upd H3 li (.lst [])) li = some (.lst []) := upd_same
      generalize upd H3 li (.lst []) = Hi at s4i h5i
      have nil : li ≠ ll := fun z => by rw [z, h3l] at hli; cases hli
      refine ⟨_, rfl, _, _, rfl, rfl, .inl ⟨by decide, by decide⟩, _, rfl, by omega, by omega, ?_⟩
      have e2m : (2 * (m : Int)).toNat = 2 * m := by omega
      refine for_range (lo := 0) (n := (2 * (m : Int)).toNat) (fun j σ H6 => ∃ (v8 v9 v10 : Option V) (qs : List (Str × Nat)) (bs : List V), σ = [some (.int c), some (.int (m : Int)), some (.int (n : Int)), some (.ref lh), some (.ref lw), some (.ref ll), some (.int (0 + (i : Int))), some (.ref li), v8, v9, v10] ∧ H6 li = some (.lst bs) ∧ (∀ c o, Hi c = some o → c ≠ li → H6 c = some o) ∧ RdsL K (newIn Hi H6) (qs.map dStep) bs ∧ qs.length = j ∧ ∀ q ∈ qs, q.2 < n)
        ⟨v8, v9, v10, [], [], rfl, h5i, fun c o e _ => e, rfl, rfl, (fun q h => nomatch h)⟩ ?_ ?_
      · rintro j σ H6 hj ⟨v8, v9, v10, qs, bs, rfl, h6, kk6, hR6, ql, hqe⟩
        refine ⟨_, rfl, _, rfl, _, _, rfl, rfl, .inl ⟨by decide, by decide⟩, _, _, rfl, rfl, _, rfl, _, _, rfl, rfl, c, 20 + 16 * (0 + (i : Int)) + (0 + (j : Int)), 8, rfl, by omega, by omega, by decide, fun lt t0 t1 => ?_⟩
        refine ⟨rfl, by show 3 ≤ sizeLine; decide, fun lp hlp => ⟨lp, rfl, ⟨_, SqL.of upd_same⟩, fun lc hlc => ?_⟩⟩
        have s6p : Same H6 (upd H6 lp (.lst [.int 1, .int 2, .int 4])) := Same.upd hlp
        have h7p : (upd H6 lp (.lst [.int 1, .int 2, .int 4])) lp = some (.lst [.int 1, .int 2, .int 4]) := upd_same
        generalize upd H6 lp (.lst [.int 1, .int 2, .int 4]) = H7 at s6p h7p hlc
        refine comp_rel (fun y => ∃ t, y = .str t ∧ ∃ cc, t = ⟨#[cc]⟩ ∧ True) (itIs_list K lp [.int 1, .int 2, .int 4]) hlc (by show 3 ≤ sizeLine; decide) (fun H' s' => SqL.of (s' _ _ h7p)) (fun x H8 Q' hx s8 q => ?_) (fun ys H8 s8 hlen8 hR8 h8 => ?_)
        · obtain ⟨pw, rfl, pw1, pw4⟩ : ∃ pw : Int, x = .int pw ∧ 0 < pw ∧ pw < 1073741824 := by
            rcases List.mem_cons.mp hx with z | hx
            · exact ⟨1, z, by decide, by decide⟩
            rcases List.mem_cons.mp hx with z | hx
            · exact ⟨2, z, by decide, by decide⟩
            · exact ⟨4, List.mem_singleton.mp hx, by decide, by decide⟩
          obtain ⟨cc, hcc⟩ := ab_at (lt / pw % 2) (Int.emod_nonneg _ (by decide)) (Int.emod_lt_of_pos _ (by decide))
          exact ⟨_, rfl, _, rfl, _, _, rfl, rfl, ⟨pw1, pw4⟩, _, _, rfl, rfl, (by show (0 : Int) < 2; decide), "ab", _, cc, rfl, rfl, by decide +kernel, hcc, q _ H8 ⟨_, rfl, cc, rfl, trivial⟩ (Same.refl _)⟩
        obtain ⟨ts, rfl, hts⟩ := strs_of hR8
        have hsum := ones_sum hts
        have hts3 : ts.length = 3 := by rw [List.length_map] at hlen8; exact hlen8
        refine ⟨_, lc, ts, rfl, rfl, SqL.of h8, ?_, ?_⟩
        · rw [hsum]
          show ts.length + ts.length * 0 ≤ 16777216
          omega
        generalize Txt.join "" ts = wd
        have s68 := s6p.trans s8
        have h8i := s68 _ _ h6
        refine ⟨_, rfl, .inl ⟨rfl, _, SqL.of h8i⟩, _, rfl, _, rfl, _, rfl, _, _, rfl, rfl, .inl ⟨by decide, by decide⟩, _, _, rfl, rfl, _, rfl, _, _, rfl, rfl, _, rfl, c, 100 + 16 * (0 + (i : Int)) + (0 + (j : Int)), (n : Int), rfl, by omega, by omega, by omega, fun de e0 e1 => ?_⟩
        obtain ⟨en, rfl⟩ : ∃ en : Nat, de = (en : Int) := ⟨de.toNat, by omega⟩
        refine ⟨by show 2 ≤ sizeLine; decide, fun r hr => ?_⟩
        have bl : bs.length = j := by rw [hR6.len, List.length_map, ql]
        refine ⟨li, _, _, rfl, rfl, Same.upd hr _ _ h8i, by rw [bl]; exact small1000 (by omega), ?_⟩
        have kp : ∀ b o, (upd H8 r (.tup [.str wd, .int (en : Int)])) b = some o → b ≠ li → (upd (upd H8 r (.tup [.str wd, .int (en : Int)])) li (.lst (bs ++ [.ref r]))) b = some o := fun b o e hb => by rw [upd_ne hb]; exact e
        have hr0 : Hi r = none := by
          cases z : Hi r with
          | none => rfl
          | some o =>
            by_cases hc : r = li
            · rw [hc, h8i] at hr; cases hr
            · rw [s68 _ _ (kk6 _ _ z hc)] at hr; cases hr
        have nrl : r ≠ li := fun z => by rw [z, h8i] at hr; cases hr
        refine ⟨_, _, _, qs ++ [(wd, en)], bs ++ [.ref r], rfl, upd_same, fun c o e hc => kp _ _ (Same.upd hr _ _ (s68 _ _ (kk6 c o e hc))) hc, ?_, by rw [List.length_append, ql]; rfl, fun q hq => ?_⟩
        · rw [List.map_append]
          refine rdsL_snoc (RdsL.same ((newIn_same (s68.trans (Same.upd hr))).trans (newIn_keep h5i kp)) _ _ hR6) ?_
          exact ⟨r, _, rfl, newIn_at hr0 (by rw [upd_ne nrl, upd_same]), .str wd, [.int (en : Int)], rfl, ⟨rfl, rfl⟩, .int (en : Int), [], rfl, ⟨rfl, rfl⟩, rfl⟩
        · rcases List.mem_append.mp hq with z | z
          · exact hqe q z
          · rw [List.mem_singleton.mp z]
            show en < n
            omega
      rintro σ H6 ⟨v8, v9, v10, qs, bs, rfl, h6, kk6, hR6, ql, hqe⟩
      have h6l := kk6 _ _ (s4i _ _ h3l) nil.symm
      have al : as.length = i := by rw [hR.len, List.length_map, lnl]
      have s46 : Same H3 H6 := fun c o e => kk6 _ _ (s4i _ _ e) (ne_of_none e hli)
      have kp : ∀ b o, H6 b = some o → b ≠ ll → (upd H6 ll (.lst (as ++ [.ref li]))) b = some o := fun b o e hb => by rw [upd_ne hb]; exact e
      refine ⟨_, rfl, .inl ⟨rfl, _, SqL.of h6l⟩, _, rfl, ll, _, _, rfl, rfl, h6l, by rw [al]; exact small1000 (by omega), ?_⟩
      have hli0 : Hb li = none := by
        cases z : Hb li with
        | none => rfl
        | some o => rw [kk _ _ z nil] at hli; cases hli
      have old : Same (newIn Hi H6) (newIn Hb H6) := fun c o e => by
        unfold newIn at e ⊢
        cases q : Hb c with
        | none =>
          cases q2 : Hi c with
          | none => rw [q2] at e; exact e
          | some z => rw [q2] at e; cases e
        | some z =>
          by_cases hc : c = ll
          · rw [hc, s4i _ _ h3l] at e; cases e
          · rw [s4i _ _ (kk _ _ q hc)] at e; cases e
      refine ⟨_, _, _, _, _, lns ++ [qs], as ++ [.ref li], rfl, upd_same, fun c o e h2 => kp _ _ (s46 _ _ (kk c o e h2)) h2, ?_, by rw [List.length_append, lnl]; rfl, fun l hl => ?_, fun l hl => ?_⟩
      · rw [List.map_append]
        refine rdsL_snoc (RdsL.same ((newIn_same s46).trans (newIn_keep hbl kp)) _ _ hR) ?_
        exact ⟨li, bs, rfl, .inl (newIn_at hli0 (kp _ _ h6 nil)), RdsL.same (old.trans (newIn_keep hbl kp)) _ _ hR6⟩
      · rcases List.mem_append.mp hl with z | z
        · exact hle l z
        · rw [List.mem_singleton.mp z]; exact hqe
      · rcases List.mem_append.mp hl with z | z
        · exact hl8 l z
        · rw [List.mem_singleton.mp z, ql, e2m]
    · rintro σ H3 ⟨v6, v7, v8, v9, v10, lns, as, rfl, h3l, kk, hR, lnl, hle, hl8⟩
      have s3 : Same H6 H3 := fun c o e => kk _ _ (s6b _ _ e) (ne_of_none e hll)
      refine ⟨_, rfl, _, rfl, _, rfl, by show 3 ≤ sizeLine; decide, fun p hp => ?_⟩
      have sp : Same H3 (upd H3 p (.tup [.ref lh, .ref lw, .ref ll])) := Same.upd hp
      exact k p hs ws lns _ (((s5.trans s6).trans s3).trans sp) ⟨p, _, rfl, upd_same, .ref lh, [.ref lw, .ref ll], rfl, strs_rds (sp _ _ (s3 _ _ (s6 _ _ h5))), .ref lw, [.ref ll], rfl, ints_rds (sp _ _ (s3 _ _ h6)), .ref ll, [], rfl, ⟨ll, as, rfl, .inl (sp _ _ h3l), RdsL.same ((newIn_sub _ _).trans sp) _ _ hR⟩, rfl⟩ ⟨by omega, by omega, by omega, by omega, hws, by rw [hlen]; exact hle, hl8⟩
theorem erase_map (f : Int → V) : ∀ (l : List Int) (k : Nat), (l.map f).eraseIdx k = (l.eraseIdx k).map f
  | [], _ => rfl
  | x :: l, 0 => rfl
  | x :: l, k + 1 => by
    show f x :: (l.map f).eraseIdx k = f x :: (l.eraseIdx k).map f
    rw [erase_map f l k]
theorem erase_perm : ∀ (l : List Int) (k : Nat) (h : k < l.length), (l[k] :: l.eraseIdx k).Perm l
  | [], _, h => absurd h (Nat.not_lt_zero _)
  | x :: l, 0, _ => List.Perm.refl _
  | x :: l, k + 1, h => by
    have h' : k < l.length := by simpa using h
    show (l[k] :: x :: l.eraseIdx k).Perm (x :: l)
    exact (List.Perm.swap x l[k] _).trans ((erase_perm l k h').cons x)
def rngI (n : Nat) : List Int := (List.range n).map fun i => ((i : Nat) : Int)
theorem rngI_nd (n : Nat) : (rngI n).Nodup := by
  unfold rngI
  exact List.Pairwise.map (S := fun a b : Int => a ≠ b) (fun i : Nat => (i : Int)) (fun a b h e => h (by have e' : (a : Int) = (b : Int) := e; omega)) List.nodup_range
theorem rngI_mem {n : Nat} {i : Int} : i ∈ rngI n ↔ 0 ≤ i ∧ i < n := by
  unfold rngI
  rw [List.mem_map]
  constructor
  · rintro ⟨j, hj, rfl⟩
    have := List.mem_range.mp hj
    omega
  · rintro ⟨h1, h2⟩
    exact ⟨i.toNat, List.mem_range.mpr (by omega), by omega⟩
def spHalf (K : PySem.W.Frag) : Sp := fun vs H Q _ => ∃ (c : Int) (m : Nat), vs = [.int c, .int (m : Int)] ∧ 2 ≤ m ∧ m ≤ 8 ∧ ∀ (a : Addr) (ns : List Int) (H' : Hp), Same H H' → H' a = some (.lst (ns.map V.int)) → ns.length = m → ns.Nodup → (∀ i ∈ ns, 0 ≤ i ∧ i < ((2 * m : Nat) : Int)) → Q (.ref a) H'
theorem sc__law_half : FnScope ["_law_cell", "_law_many", "_law_rest", "_law_found", "_law_k"] ["_law_cell", "_law_many"] (defScope (top 29)) := ⟨rfl, rfl, rfl, by decide +kernel, rfl, by decide +kernel, by decide +kernel⟩
theorem ok__law_half (L : Lk K mg) : FnOk P w K mg base CX0 2 L.f__law_half L.d__law_half ["_law_cell", "_law_many"] (spHalf K) := by
  have T := L.T
  refine L.a__law_half.F.ok sc__law_half (fun vs H Q E h => ?_) (fun cdv A outer s H vs Q E hr h => ?_)
  · obtain ⟨c, m, rfl, _⟩ := h
    rfl
  · obtain ⟨c, m, rfl, m2, m8, k⟩ := h
    refine ⟨_, (pss_cons (ps_set (i := 2) sc__law_half.nd rfl (Or.inl rfl) (pe_callTy (call_listR rfl) (by rfl) T.list bList (pa_cons (pe_callTy call_range1 (by rfl) T.range bRange' (pa_cons (pe_op op_mul pe_int (pv 1)) pa_nil)) pa_nil)))
        (pss_cons (ps_set (i := 3) sc__law_half.nd rfl (Or.inl rfl) (pe_lst pa_nil))
        (pss_cons (ps_for PassesOwn.never rfl (pi_range1 rfl T.range (pa_cons (pv 1) pa_nil)) (pg_name (i := 4) sc__law_half.nd rfl (Or.inl rfl)) (pss_one (ps_expr (pe_bm PySem.F.plainAttrs_list PySem.F.slot_list_append PySem.F.type_list_append mt_append (pv 3) (pa_cons (pe_bm PySem.F.plainAttrs_list PySem.F.slot_list_pop PySem.F.type_list_pop mt_popAt (pv 2) (pa_cons (pe_call (ok__law_mixed L) (hr.mono (by decide)) rfl L.a__law_mixed.g L.a__law_mixed.F.kp L.a__law_mixed.b .nil pass0 (pa_cons (pv 0) (pa_cons (pe_op op_add pe_int (pv 4)) (pa_cons (pe_callB call_len_seq (by rfl) T.len PySem.boot_len (pa_cons (pv 2) pa_nil)) pa_nil)))) pa_nil)) pa_nil)))))
        (pss_one (ps_ret (pv 3)))))), ?_⟩
    have e2 : (2 * (m : Int)) = ((2 * m : Nat) : Int) := by omega
    refine ⟨_, rfl, _, _, rfl, rfl, .inl ⟨by decide, by decide⟩, _, rfl, fun pr hpr => ⟨pr, 2 * m, rfl, by rw [upd_same, e2], Nat.le_trans (show 2 * m ≤ 16 by omega) (by rw [sizeLine_eq]; decide), fun lr hlr => ?_⟩⟩
    have er : (List.range (2 * m)).map (fun i => V.int ((i : Nat) : Int)) = (rngI (2 * m)).map V.int := by
      unfold rngI
      rw [List.map_map]
      rfl
    rw [er]
    have s1 : Same H (upd (upd H pr (.rng 0 (2 * (m : Int)))) lr (.lst ((rngI (2 * m)).map V.int))) := (Same.upd hpr).trans (Same.upd hlr)
    have h1 : (upd (upd H pr (.rng 0 (2 * (m : Int)))) lr (.lst ((rngI (2 * m)).map V.int))) lr = some (.lst ((rngI (2 * m)).map V.int)) := upd_same
    have fr : H lr = none := none_of (Same.upd (o := .rng 0 (2 * (m : Int))) hpr) hlr
    refine ⟨Nat.zero_le _, fun lf hlf => ?_⟩
    generalize upd (upd H pr (.rng 0 (2 * (m : Int)))) lr (.lst ((rngI (2 * m)).map V.int)) = H1 at s1 h1 hlf
    have nfr : lr ≠ lf := ne_of_none h1 hlf
    have ff : H lf = none := none_of s1 hlf
    have s2 : Same H1 (upd H1 lf (.lst [])) := Same.upd hlf
    have h2f : (upd H1 lf (.lst [])) lf = some (.lst []) := upd_same
    generalize upd H1 lf (.lst []) = Hb at s2 h2f
    have h2r := s2 _ _ h1
    have sb := s1.trans s2
    refine ⟨_, rfl, _, rfl, by omega, by omega, ?_⟩
    rw [Int.toNat_natCast]
    refine for_range (lo := 0) (n := m) (fun i σ H3 => ∃ (v4 : Option V) (rs fs : List Int), σ = [some (.int c), some (.int (m : Int)), some (.ref lr), some (.ref lf), v4] ∧ H3 lr = some (.lst (rs.map V.int)) ∧ H3 lf = some (.lst (fs.map V.int)) ∧ (∀ c o, Hb c = some o → c ≠ lr → c ≠ lf → H3 c = some o) ∧ (fs ++ rs).Perm (rngI (2 * m)) ∧ fs.length = i)
      ⟨none, _, [], rfl, h2r, h2f, fun c o e _ _ => e, List.Perm.refl _, rfl⟩ ?_ ?_
    · rintro i σ H3 hi ⟨v4, rs, fs, rfl, h3r, h3f, kk, hp, hfl⟩
      have hrl : rs.length = 2 * m - i := by
        have := hp.length_eq
        unfold rngI at this
        rw [List.length_append, List.length_map, List.length_range] at this
        omega
      refine ⟨_, rfl, .inl ⟨rfl, _, SqL.of h3f⟩, _, rfl, .inl ⟨rfl, _, SqL.of h3r⟩, _, rfl, _, rfl, _, _, rfl, rfl, _, rfl, lr, _, rfl, .inl (SqL.of h3r), c, 20 + (0 + (i : Int)), _, rfl, by omega, by omega, by rw [List.length_map]; omega, fun dd q0 q1 => ?_⟩
      rw [List.length_map] at q1
      obtain ⟨kx, rfl⟩ : ∃ kx : Nat, dd = (kx : Int) := ⟨dd.toNat, by omega⟩
      have hk : kx < rs.length := by omega
      have hsq := (ixN_seq (n := (rs.map V.int).length) (i := (kx : Int)) (j := kx) (by unfold ixN; rw [List.length_map, if_pos (by omega), if_pos (by omega), Int.toNat_natCast])).1
      refine ⟨lr, _, _, kx, .int rs[kx], rfl, rfl, h3r, by omega, by omega, hsq, by rw [List.getElem?_map, List.getElem?_eq_getElem hk]; rfl, ?_⟩
      rw [erase_map]
      refine ⟨lf, _, _, rfl, rfl, by rw [upd_ne nfr.symm]; exact h3f, by rw [List.length_map]; exact small1000 (by omega), ?_⟩
      refine ⟨_, rs.eraseIdx kx, fs ++ [rs[kx]], rfl, by rw [upd_ne nfr, upd_same], by rw [upd_same, List.map_append]; rfl, fun c o e h1 h2 => by rw [upd_ne h2, upd_ne h1]; exact kk c o e h1 h2, ?_, by rw [List.length_append, hfl]; rfl⟩
      refine List.Perm.trans ?_ hp
      rw [List.append_assoc]
      exact List.Perm.append_left fs (erase_perm rs kx hk)
    · rintro σ H3 ⟨v4, rs, fs, rfl, h3r, h3f, kk, hp, hfl⟩
      have hnd : (fs ++ rs).Nodup := hp.nodup_iff.mpr (rngI_nd _)
      exact ⟨_, rfl, k lf fs H3 (fun c o e => kk _ _ (sb _ _ e) (ne_of_none e fr) (ne_of_none e ff)) h3f hfl (List.nodup_append.mp hnd).1 fun i hi => rngI_mem.mp (hp.mem_iff.mp (List.mem_append_left _ hi))⟩
end
end K32

set_option Elab.async false
set_option linter.all false
set_option maxRecDepth 100000
set_option maxHeartbeats 4000000
namespace K32
open PySem L2 Bs Sx
section
variable {P : Program} {w : World} {K : PySem.W.Frag} {mg : Str → Option Value} {base : Heap}
def spLPart (K : PySem.W.Frag) : Sp := fun vs H Q _ => ∃ (al aw an : Addr) (d : Nat) (ns ws : List Int) (lns : List (List (Str × Nat))) (qs : List (Str × Nat)), vs = [.ref al, .ref aw, .int (d : Int), .ref an] ∧ Rds K H (dLines lns) (.ref al) ∧ Rds K H (dInts ws) (.ref aw) ∧ SqL K H an (ns.map V.int) ∧ lns[d]? = some qs ∧ qs.length ≤ 10000 ∧ (∀ q ∈ qs, q.2 < ws.length) ∧
  ∀ (p ls lo lu : Addr) (H' : Hp), Same H H' → H' p = some (.tup [.ref ls, .ref lo, .ref lu]) → Rds K H' (dLine (chosenOf ns qs)) (.ref ls) → Rds K H' (dLine (othersOf ns qs)) (.ref lo) → H' lu = some (.lst [.int (stepSum ws (chosenOf ns qs)), .int (stepSum ws (othersOf ns qs))]) → Q (.ref p) H'
theorem sc__law_part : FnScope ["_law_lines", "_law_weights", "_law_desk", "_law_numbers", "_law_some", "_law_others_here", "_law_sums"] ["_law_lines", "_law_weights", "_law_desk", "_law_numbers"] (defScope (top 30)) := ⟨rfl, rfl, rfl, by decide +kernel, rfl, by decide +kernel, by decide +kernel⟩
theorem ok__law_part (L : Lk K mg) : FnOk P w K mg base CX0 1 L.f__law_part L.d__law_part ["_law_lines", "_law_weights", "_law_desk", "_law_numbers"] (spLPart K) := by
  have T := L.T
  refine L.a__law_part.F.ok sc__law_part (fun vs H Q E h => ?_) (fun cdv A outer s H vs Q E hr h => ?_)
  · obtain ⟨al, aw, an, d, ns, ws, lns, qs, rfl, _⟩ := h
    rfl
  · obtain ⟨al, aw, an, d, ns, ws, lns, qs, rfl, rl, rw', hA, hqs, hqn, hqe, k⟩ := h
    refine ⟨_, (pss_cons (ps_setComp (i := 4) rfl (blockOk_of (sc := defScope (top 30)) (N := ["_law_lines", "_law_weights", "_law_desk", "_law_numbers", "_law_some", "_law_others_here", "_law_sums"]) (ys := ["_law_lines", "_law_desk", "_law_numbers"]) (ix := [0, 2, 3]) rfl rfl (by decide +kernel)) sc__law_part.nd rfl rfl (pi_range1 rfl T.range (pa_cons (pe_callB call_len_seq (by rfl) T.len PySem.boot_len (pa_cons (pe_ix ix_list (pv 0) (pv 2) (fun _ _ => rfl)) pa_nil)) pa_nil)) (fun _ _ _ _ _ _ => pts_one (pt_cmpR (op_in_seqK (K := K) rfl) (pv 0) (pv 3) rfl)) (fun _ _ _ _ _ _ => (pe_ix (ix_listK (K := K) rfl) (pe_ix (ix_listK (K := K) rfl) (pv 1) (pv 2) (fun _ _ => rfl)) (pv 0) (fun _ _ => rfl))))
        (pss_cons (ps_setComp (i := 5) rfl (blockOk_of (sc := defScope (top 30)) (N := ["_law_lines", "_law_weights", "_law_desk", "_law_numbers", "_law_some", "_law_others_here", "_law_sums"]) (ys := ["_law_lines", "_law_desk", "_law_numbers"]) (ix := [0, 2, 3]) rfl rfl (by decide +kernel)) sc__law_part.nd rfl rfl (pi_range1 rfl T.range (pa_cons (pe_callB call_len_seq (by rfl) T.len PySem.boot_len (pa_cons (pe_ix ix_list (pv 0) (pv 2) (fun _ _ => rfl)) pa_nil)) pa_nil)) (fun _ _ _ _ _ _ => pts_one (pt_cmpR (op_notIn_seqK (K := K) rfl) (pv 0) (pv 3) rfl)) (fun _ _ _ _ _ _ => (pe_ix (ix_listK (K := K) rfl) (pe_ix (ix_listK (K := K) rfl) (pv 1) (pv 2) (fun _ _ => rfl)) (pv 0) (fun _ _ => rfl))))
        (pss_cons (ps_setComp (i := 6) rfl (blockOk_of (sc := defScope (top 30)) (N := ["_law_lines", "_law_weights", "_law_desk", "_law_numbers", "_law_some", "_law_others_here", "_law_sums"]) (ys := ["_law_weights"]) (ix := [1]) rfl rfl (by decide +kernel)) sc__law_part.nd rfl rfl (pi_list (pe_lst (pa_cons (pv 4) (pa_cons (pv 5) pa_nil)))) (fun _ _ _ _ _ _ => pts_nil) (fun _ _ _ _ _ _ => (pe_callB (call_sumK (K := K) rfl rfl) (by rfl) T.sum bSum (pa_cons (pe_comp2K (K := K) rfl rfl (blockOk_of (N := ["_law_line", "_law_weights"]) (ys := ["_law_weights"]) (ix := [1]) rfl rfl (by kernel_rfl)) (blockOk_of (N := ["_law_line", "_law_weights"]) (ys := ["_law_weights"]) (ix := [1]) rfl rfl (by kernel_rfl)) (by decide) (pi_listK (K := K) rfl (pv 0)) (fun _ _ _ _ _ _ => pts_nil) (fun _ _ _ _ _ _ => (pe_ix (ix_listK (K := K) rfl) (pv 2) (pv 1) (fun _ _ => rfl)))) pa_nil))))
        (pss_one (ps_ret (pe_tup (pa_cons (pv 4) (pa_cons (pv 5) (pa_cons (pv 6) pa_nil))))))))), ?_⟩
    obtain ⟨al', xs, ec, hc, hcl⟩ := id rl
    cases ec
    have hw := rd_ints rw'
    obtain ⟨y0, hy0, rd⟩ := hcl.at (i := d) (d := dLine qs) (by rw [List.getElem?_map, hqs]; rfl)
    obtain ⟨ay, ys, rfl, hay, hyl⟩ := rd
    have yl : ys.length = qs.length := by rw [hyl.len, List.length_map]
    have hatl : atI xs (d : Int) = some (.ref ay) := atI_nat hy0
    have hg : ∀ (i : Nat) (x : V), ys[i]? = some x → (fun v : V => match v with | .int i => ys.getD i.toNat .non | _ => .non) (.int (0 + (i : Nat))) = x := fun i x hx => by
      show ys.getD (0 + ((i : Nat) : Int)).toNat .non = x
      rw [Int.zero_add, Int.toNat_natCast, List.getD_eq_getElem?_getD, hx]
      rfl
    -- some
    refine ⟨_, rfl, _, rfl, al, xs, _, _, rfl, rfl, .inl hc, hatl, ay, ys, rfl, .inl (.inl hay), _, rfl, by omega, by omega, fun l1 hl1 => ?_⟩
    rw [Int.toNat_natCast]
    refine comp_pure (fun v => inV v (ns.map V.int)) (fun v => match v with | .int i => ys.getD i.toNat .non | _ => .non) (itIs_range 0 ys.length) hl1 (by rw [List.length_map, List.length_range]; exact small16 (by omega)) (fun _ _ => trivial) (fun z H1 Q' hz s1 qq => ?_) (fun z H1 Q' hz _ s1 qq => ?_) (fun H1 s1 h1 => ?_)
    · obtain ⟨i, hi, rfl⟩ := List.mem_map.mp hz
      exact ⟨_, rfl, _, rfl, an, _, rfl, .inl (s1.seq hA), rfl, flat_ints ns, _, rfl, qq H1 (Same.refl _)⟩
    · obtain ⟨i, hi, rfl⟩ := List.mem_map.mp hz
      have hi' : i < ys.length := List.mem_range.mp hi
      have e1 : atI ys (0 + (i : Int)) = some ((fun v : V => match v with | .int i => ys.getD i.toNat .non | _ => .non) (.int (0 + (i : Nat)))) := by
        rw [hg i _ (List.getElem?_eq_getElem hi'), Int.zero_add]
        exact atI_nat (List.getElem?_eq_getElem hi')
      exact ⟨_, rfl, _, rfl, al, xs, _, _, rfl, rfl, s1.seq (.inl hc), hatl, _, rfl, ay, ys, _, _, rfl, rfl, s1.seq (.inl hay), e1, qq H1 (Same.refl _)⟩
    rw [pick_range (xs := ys) (fun i => decide ((i : Int) ∈ ns)) _ _ (fun i => by show inV _ _ = _; rw [inV_ints, Int.zero_add]) hg] at h1
    -- others
    refine ⟨_, rfl, _, rfl, al, xs, _, _, rfl, rfl, s1.seq (.inl hc), hatl, ay, ys, rfl, .inl (s1.seq (.inl hay)), _, rfl, by omega, by omega, fun l2 hl2 => ?_⟩
    rw [Int.toNat_natCast]
    refine comp_pure (fun v => !inV v (ns.map V.int)) (fun v => match v with | .int i => ys.getD i.toNat .non | _ => .non) (itIs_range 0 ys.length) hl2 (by rw [List.length_map, List.length_range]; exact small16 (by omega)) (fun _ _ => trivial) (fun z H2 Q' hz s2 qq => ?_) (fun z H2 Q' hz _ s2 qq => ?_) (fun H2 s2 h2 => ?_)
    · obtain ⟨i, hi, rfl⟩ := List.mem_map.mp hz
      exact ⟨_, rfl, _, rfl, an, _, rfl, .inl ((s1.trans s2).seq hA), rfl, flat_ints ns, _, rfl, qq H2 (Same.refl _)⟩
    · obtain ⟨i, hi, rfl⟩ := List.mem_map.mp hz
      have hi' : i < ys.length := List.mem_range.mp hi
      have e1 : atI ys (0 + (i : Int)) = some ((fun v : V => match v with | .int i => ys.getD i.toNat .non | _ => .non) (.int (0 + (i : Nat)))) := by
        rw [hg i _ (List.getElem?_eq_getElem hi'), Int.zero_add]
        exact atI_nat (List.getElem?_eq_getElem hi')
      exact ⟨_, rfl, _, rfl, al, xs, _, _, rfl, rfl, (s1.trans s2).seq (.inl hc), hatl, _, rfl, ay, ys, _, _, rfl, rfl, (s1.trans s2).seq (.inl hay), e1, qq H2 (Same.refl _)⟩
    rw [pick_range (xs := ys) (fun i => !decide ((i : Int) ∈ ns)) _ _ (fun i => by show (!inV _ _) = _; rw [inV_ints, Int.zero_add]) hg] at h2
    have s02 := s1.trans s2
    have hl12 : l1 ≠ l2 := ne_of_none h1 hl2
    have r1 : Rds K H2 (dLine (chosenOf ns qs)) (.ref l1) := ⟨l1, _, rfl, .inl (s2 _ _ h1), rds_pick _ (RdsL.same s02 _ _ hyl)⟩
    have r2 : Rds K H2 (dLine (othersOf ns qs)) (.ref l2) := ⟨l2, _, rfl, .inl h2, rds_pick _ (RdsL.same s02 _ _ hyl)⟩
    -- the sums
    refine ⟨_, rfl, _, rfl, by show 2 ≤ sizeLine; decide, fun l3 hl3 => ⟨l3, rfl, ⟨_, SqL.of upd_same⟩, fun lu hlu => ?_⟩⟩
    have s23 : Same H2 (upd H2 l3 (.lst [.ref l1, .ref l2])) := Same.upd hl3
    have h3 : (upd H2 l3 (.lst [.ref l1, .ref l2])) l3 = some (.lst [.ref l1, .ref l2]) := upd_same
    generalize upd H2 l3 (.lst [.ref l1, .ref l2]) = H3 at s23 h3 hlu
    refine comp_map (fun v => if v = .ref l1 then .int (stepSum ws (chosenOf ns qs)) else .int (stepSum ws (othersOf ns qs))) (itIs_list K l3 [.ref l1, .ref l2]) hlu (by show 2 ≤ sizeLine; decide) (fun H' s' => SqL.of (s' _ _ h3)) (fun z H4 Q' hz s4 qq => ?_) (fun H4 s4 h4 => ?_)
    · obtain ⟨lx, qx, rfl, hRx, hxe, hxn, eS⟩ : ∃ lx qx, z = .ref lx ∧ Rds K H4 (dLine qx) (.ref lx) ∧ (∀ q ∈ qx, q.2 < ws.length) ∧ qx.length ≤ 10000 ∧ (if (z = .ref l1) then V.int (stepSum ws (chosenOf ns qs)) else .int (stepSum ws (othersOf ns qs))) = .int (stepSum ws qx) := by
        rcases List.mem_cons.mp hz with e | hz
        · exact ⟨l1, _, e, Rds.same (s23.trans s4) _ _ r1, fun q hq => hqe q (pickF_mem hq), Nat.le_trans (pickF_len _ _ _) hqn, by rw [if_pos e]⟩
        · have e := List.mem_singleton.mp hz
          exact ⟨l2, _, e, Rds.same (s23.trans s4) _ _ r2, fun q hq => hqe q (pickF_mem hq), Nat.le_trans (pickF_len _ _ _) hqn, by rw [if_neg (by rw [e]; exact fun h => hl12 (V.ref.inj h).symm)]⟩
      obtain ⟨ax, rs, ex, hS, hT⟩ := line_refs hRx
      cases ex
      have hrl : rs.length = qx.length := by rw [hT.1, List.length_map, List.length_map]
      refine ⟨_, rfl, lx, rfl, ⟨_, hS⟩, fun lc hlc => ?_⟩
      refine comp_pure2 (prs := qx.map stepQ) (fun _ => true) (fun q => match q.2 with | .int e => .int (ws.getD e.toNat 0) | _ => .non) (itIs_list K lx (rs.map V.ref)) hT hlc (small16 (by omega)) (fun H' s' => s'.seq hS) (fun q H7 Q' _ _ qq => qq H7 (Same.refl _)) (fun q H7 Q' hq _ s7 qq => ?_) (fun H7 s7 h7 => ?_)
      · obtain ⟨q', hq', rfl⟩ := List.mem_map.mp hq
        have hlt := hxe q' hq'
        have hat : atI (ws.map V.int) (q'.2 : Int) = some (.int (ws.getD q'.2 0)) := atI_nat (by rw [List.getElem?_map, List.getElem?_eq_getElem hlt, List.getD_eq_getElem?_getD, List.getElem?_eq_getElem hlt]; rfl)
        have q2 : Q' (.int (ws.getD q'.2 0)) H7 := by
          have := qq H7 (Same.refl _)
          rwa [show (stepQ q').2 = .int (q'.2 : Int) from rfl] at this
        exact ⟨_, rfl, _, rfl, aw, _, _, _, rfl, rfl, (((s02.trans s23).trans s4).trans s7).seq (.inl hw), hat, q2⟩
      have e7 : ((qx.map stepQ).filter fun _ => true).map (fun q => match q.2 with | .int e => V.int (ws.getD e.toNat 0) | _ => .non) = (qx.map fun q => ws.getD q.2 0).map V.int := by
        rw [List.filter_eq_self.mpr (fun _ _ => rfl), List.map_map, List.map_map]
        rfl
      rw [e7] at h7
      have q2 := qq H7 s7
      rw [eS] at q2
      exact ⟨lc, _, rfl, SqL.of h7, q2⟩
    have e4 : ([.ref l1, .ref l2] : List V).map (fun v => if v = V.ref l1 then V.int (stepSum ws (chosenOf ns qs)) else .int (stepSum ws (othersOf ns qs))) = [.int (stepSum ws (chosenOf ns qs)), .int (stepSum ws (othersOf ns qs))] := by
      show [if V.ref l1 = V.ref l1 then V.int (stepSum ws (chosenOf ns qs)) else .int (stepSum ws (othersOf ns qs)), if V.ref l2 = V.ref l1 then V.int (stepSum ws (chosenOf ns qs)) else .int (stepSum ws (othersOf ns qs))] = _
      rw [if_pos rfl, if_neg (fun h => hl12 (V.ref.inj h).symm)]
    rw [e4] at h4
    have s24 := s23.trans s4
    refine ⟨_, rfl, _, rfl, _, rfl, by show 3 ≤ sizeLine; decide, fun p hp => ?_⟩
    have sp : Same H4 (upd H4 p (.tup [.ref l1, .ref l2, .ref lu])) := Same.upd hp
    exact k p l1 l2 lu _ ((s02.trans s24).trans sp) upd_same (Rds.same (s24.trans sp) _ _ r1) (Rds.same (s24.trans sp) _ _ r2) (sp _ _ h4)
end
end K32

set_option Elab.async false
set_option linter.all false
set_option maxRecDepth 100000
set_option maxHeartbeats 4000000
namespace K32
open PySem L2 Bs Sx
section
variable {P : Program} {w : World} {K : PySem.W.Frag} {mg : Str → Option Value} {base : Heap}
theorem splitW_eq {ws : List Int} {d : Nat} (hd : d < ws.length) (w : Int) : splitW ws d w = (ws.take d ++ [w] ++ ws.drop (d + 1)) ++ [ws.getD d 0 - w] := by
  unfold splitW
  rw [List.set_append_left _ _ hd, List.set_eq_take_append_cons_drop, if_pos hd, List.append_assoc, List.append_assoc]
  simp
theorem splitL_eq {lns : List (List (Str × Nat))} {d : Nat} (hd : d < lns.length) (ns : List Int) : splitL lns d ns = (lns.set d (chosenOf ns (lns.getD d [])) ++ [othersOf ns (lns.getD d [])]).map (twins d lns.length) := by
  unfold splitL
  rw [List.set_append_left _ _ hd]
def spLDiv (K : PySem.W.Frag) : Sp := fun vs H Q _ => ∃ (ah aw al an : Addr) (d : Nat) (w : Int) (ns ws : List Int) (hs : List Str) (lns : List (List (Str × Nat))), vs = [.ref ah, .ref aw, .ref al, .int (d : Int), .ref an, .int w] ∧ Rds K H (dStrs hs) (.ref ah) ∧ Rds K H (dInts ws) (.ref aw) ∧ Rds K H (dLines lns) (.ref al) ∧ SqL K H an (ns.map V.int) ∧ Whole hs ws lns ∧ d < hs.length ∧
  ∀ (p : Addr) (H' : Hp), Same H H' → Rds K H' (dSheet (splitH hs d) (splitW ws d w) (splitL lns d ns)) (.ref p) → Q (.ref p) H'
theorem sc__law_divided : FnScope ["_law_homes", "_law_weights", "_law_lines", "_law_desk", "_law_numbers", "_law_weight", "_law_some", "_law_others_here", "_law_sums", "_law_more", "_law_found", "_law_line", "_law_steps", "_law_word", "_law_end", "_law_rest", "_law_heavy"] ["_law_homes", "_law_weights", "_law_lines", "_law_desk", "_law_numbers", "_law_weight"] (defScope (top 31)) := ⟨rfl, rfl, rfl, by decide +kernel, rfl, by decide +kernel, by decide +kernel⟩
theorem ok__law_divided (L : Lk K mg) : FnOk P w K mg base CX0 2 L.f__law_divided L.d__law_divided ["_law_homes", "_law_weights", "_law_lines", "_law_desk", "_law_numbers", "_law_weight"] (spLDiv K) := by
  have T := L.T
  refine L.a__law_divided.F.ok sc__law_divided (fun vs H Q E h => ?_) (fun cdv A outer s H vs Q E hr h => ?_)
  · obtain ⟨ah, aw, al, an, d, w, ns, ws, hs, lns, rfl, _⟩ := h
    rfl
  · obtain ⟨ah, aw, al, an, d, w, ns, ws, hs, lns, rfl, rh, rw', rl, hA, W, hd, k⟩ := h
    refine ⟨_, (pss_cons (ps_asg (pe_call (ok__law_part L) (hr.mono (by decide)) rfl L.a__law_part.g L.a__law_part.F.kp L.a__law_part.b .nil pass0 (pa_cons (pv 2) (pa_cons (pv 1) (pa_cons (pv 3) (pa_cons (pv 4) pa_nil))))) (pg_tup rfl (pgs_cons (pg_name (i := 6) sc__law_divided.nd rfl (Or.inl rfl)) (pgs_cons (pg_name (i := 7) sc__law_divided.nd rfl (Or.inl rfl)) (pgs_cons (pg_name (i := 8) sc__law_divided.nd rfl (Or.inl rfl)) pgs_nil)))))
        (pss_cons (ps_setComp (i := 9) rfl (blockOk_of (sc := defScope (top 31)) (N := ["_law_homes", "_law_weights", "_law_lines", "_law_desk", "_law_numbers", "_law_weight", "_law_some", "_law_others_here", "_law_sums", "_law_more", "_law_found", "_law_line", "_law_steps", "_law_word", "_law_end", "_law_rest", "_law_heavy"]) (ys := []) (ix := []) rfl rfl (by decide +kernel)) sc__law_divided.nd rfl rfl (pi_list (pv 2)) (fun _ _ _ _ _ _ => pts_nil) (fun _ _ _ _ _ _ => (pe_callTy (call_list_ofK (K := K) rfl) (by rfl) T.list bList (pa_cons (pv 0) pa_nil))))
        (pss_cons (ps_asg (pv 6) (pg_sub (pv 9) (pv 3) set_list))
        (pss_cons (ps_expr (pe_bm PySem.F.plainAttrs_list PySem.F.slot_list_append PySem.F.type_list_append mt_append (pv 9) (pa_cons (pv 7) pa_nil)))
        (pss_cons (ps_set (i := 10) sc__law_divided.nd rfl (Or.inl rfl) (pe_lst pa_nil))
        (pss_cons (ps_for PassesOwn.never rfl (pi_list (pv 9)) (pg_name (i := 11) sc__law_divided.nd rfl (Or.inl rfl)) (pss_cons (ps_set (i := 12) sc__law_divided.nd rfl (Or.inl rfl) (pe_lst pa_nil))
        (pss_cons (ps_for PassesOwn.never rfl (pi_list (pv 11)) (pg_tup rfl (pgs_cons (pg_name (i := 13) sc__law_divided.nd rfl (Or.inl rfl)) (pgs_cons (pg_name (i := 14) sc__law_divided.nd rfl (Or.inl rfl)) pgs_nil))) (pss_cons (ps_expr (pe_bm PySem.F.plainAttrs_list PySem.F.slot_list_append PySem.F.type_list_append mt_append (pv 12) (pa_cons (pe_tup (pa_cons (pv 13) (pa_cons (pv 14) pa_nil))) pa_nil)))
        (pss_one (ps_if (pt_cmpR op_eq (pv 14) (pv 3) (nomark _)) (pss_one (ps_expr (pe_bm PySem.F.plainAttrs_list PySem.F.slot_list_append PySem.F.type_list_append mt_append (pv 12) (pa_cons (pe_tup (pa_cons (pv 13) (pa_cons (pe_callB call_len_seq (by rfl) T.len PySem.boot_len (pa_cons (pv 2) pa_nil)) pa_nil))) pa_nil)))) pss_nil))))
        (pss_one (ps_expr (pe_bm PySem.F.plainAttrs_list PySem.F.slot_list_append PySem.F.type_list_append mt_append (pv 10) (pa_cons (pv 12) pa_nil)))))))
        (pss_cons (ps_set (i := 15) sc__law_divided.nd rfl (Or.inl rfl) (pe_op op_sub (pe_ix ix_list (pv 1) (pv 3) (fun _ _ => rfl)) (pv 5)))
        (pss_cons (ps_set (i := 16) sc__law_divided.nd rfl (Or.inl rfl) (pe_op op_catR (pe_op op_catR (pe_slice sl_list (pv 1) po_none (po_some (pv 3))) (pe_lst (pa_cons (pv 5) pa_nil))) (pe_slice sl_list (pv 1) (po_some (pe_op op_add (pv 3) pe_int)) po_none)))
        (pss_one (ps_ret (pe_tup (pa_cons (pe_op op_catR (pv 0) (pe_lst (pa_cons (pe_ix ix_list (pv 0) (pv 3) (fun _ _ => rfl)) pa_nil))) (pa_cons (pe_op op_catR (pv 16) (pe_lst (pa_cons (pv 15) pa_nil))) (pa_cons (pv 10) pa_nil)))))))))))))), ?_⟩
    have hn := W.n
    have hwl := W.w
    have hll := W.l
    have hdl : d < lns.length := by omega
    have hqd : lns[d]? = some lns[d] := List.getElem?_eq_getElem hdl
    have hgd : lns.getD d [] = lns[d] := by rw [List.getD_eq_getElem?_getD, hqd]; rfl
    have hqm := List.getElem_mem hdl
    have hqn := W.m _ hqm
    have hqe := W.e _ hqm
    rw [splitL_eq hdl, hgd] at k
    have big : ∀ n : Nat, n ≤ 20000 → n ≤ sizeLine := fun n hn => Nat.le_trans hn (by rw [sizeLine_eq]; decide)
    have bigL : ∀ n : Nat, n ≤ 20000 → n < sizeLine := fun n hn => Nat.lt_of_le_of_lt hn (by rw [sizeLine_eq]; decide)
    refine ⟨_, rfl, _, rfl, _, rfl, _, rfl, al, aw, an, d, ns, ws, lns, lns[d], rfl, rl, rw', hA, hqd, by omega, fun q hq => by rw [hwl]; exact hqe q hq, fun p0 ls lo lu H1 s1 hp0 r1 r2 hu1 => ⟨p0, _, rfl, SqT.of hp0, rfl, _, _, rfl, _, _, rfl, _, _, rfl, rfl, ?_⟩⟩
    generalize lns[d] = qd at k hqn hqe r1 r2 hqm
    -- more
    obtain ⟨al', xs, ec, hc, hcl⟩ := id (Rds.same s1 _ _ rl)
    cases ec
    have xl : xs.length = lns.length := by rw [hcl.len, List.length_map]
    refine ⟨_, rfl, al, rfl, ⟨_, .inl hc⟩, fun lm hlm => ?_⟩
    refine comp_off (K := K) (lns.map dLine) (itIs_list K al xs) hlm (big _ (by omega)) (by rw [List.length_map, xl]) (fun H' s' => s'.seq (.inl hc)) (fun i x dd H3 zs Q' hx hdd s3 h3 qq => ?_) (fun zs H3 s3 h3m hz3 => ?_)
    · obtain ⟨d', e', r⟩ := hcl.get i x hx
      rw [hdd] at e'
      cases e'
      rw [List.getElem?_map] at hdd
      cases e : lns[i]? with
      | none => rw [e] at hdd; cases hdd
      | some ql =>
        rw [e] at hdd
        cases hdd
        obtain ⟨ax, ys, rfl, hax, hyl⟩ := r
        refine ⟨_, rfl, ax, ys, rfl, .inl (s3.seq (.inl hax)), fun a' ha' => ?_⟩
        have na : a' ≠ lm := fun z => by rw [z, h3] at ha'; cases ha'
        have so : Same H1 (offH (upd H3 a' (.lst ys)) lm) := fun b o e => off_at (Same.upd ha' _ _ (s3 _ _ e)) (ne_of_none e hlm)
        exact qq _ _ (Same.upd ha') ⟨a', ys, rfl, .inl (off_at upd_same na), RdsL.same so _ _ hyl⟩
    have zl : zs.length = lns.length := by rw [hz3.len, List.length_map]
    have so3 : Same H1 (offH H3 lm) := fun b o e => off_at (s3 _ _ e) (ne_of_none e hlm)
    have hix : ixN zs.length (d : Int) = some d := by
      unfold ixN
      rw [if_pos (by omega), if_pos (by omega), Int.toNat_natCast]
    refine ⟨_, rfl, _, rfl, _, rfl, lm, zs, _, d, rfl, rfl, h3m, hix, ?_⟩
    refine ⟨_, rfl, .inl ⟨rfl, _, SqL.of upd_same⟩, _, rfl, lm, _, _, rfl, rfl, upd_same, bigL _ (by rw [List.length_set]; omega), ?_⟩
    have hz4 : RdsL K (offH H3 lm) ((lns.set d (chosenOf ns qd) ++ [othersOf ns qd]).map dLine) (zs.set d (V.ref ls) ++ [.ref lo]) := by
      rw [List.map_append, List.map_set]
      exact rdsL_snoc (hz3.set d (Rds.same so3 _ _ r1)) (Rds.same so3 _ _ r2)
    have hmm : (upd (upd H3 lm (.lst (zs.set d (V.ref ls)))) lm (.lst (zs.set d (V.ref ls) ++ [.ref lo]))) lm = some (.lst (zs.set d (V.ref ls) ++ [.ref lo])) := upd_same
    have so4 : Same (offH H3 lm) (upd (upd H3 lm (.lst (zs.set d (V.ref ls)))) lm (.lst (zs.set d (V.ref ls) ++ [.ref lo]))) := off_sub fun b o e hb => by rw [upd_ne hb, upd_ne hb]; exact e
    generalize upd (upd H3 lm (.lst (zs.set d (V.ref ls)))) lm (.lst (zs.set d (V.ref ls) ++ [.ref lo])) = H4 at hmm so4
    have s04 := s1.trans (so3.trans so4)
    have hz5 := RdsL.same so4 _ _ hz4
    have hml : ∀ l ∈ lns.set d (chosenOf ns qd) ++ [othersOf ns qd], l.length ≤ 5000 := fun l hl => by
      rcases List.mem_append.mp hl with z | z
      · rcases List.mem_or_eq_of_mem_set z with z | z
        · exact W.m l z
        · rw [z]; exact Nat.le_trans (pickF_len _ _ _) hqn
      · rw [List.mem_singleton.mp z]; exact Nat.le_trans (pickF_len _ _ _) hqn
    have hmn : (lns.set d (chosenOf ns qd) ++ [othersOf ns qd]).length = lns.length + 1 := by rw [List.length_append, List.length_set]; rfl
    generalize zs.set d (V.ref ls) ++ [V.ref lo] = us at hmm hz5
    generalize lns.set d (chosenOf ns qd) ++ [othersOf ns qd] = mls at k hz5 hml hmn
    have ul : us.length = mls.length := by rw [hz5.len, List.length_map]
    -- found
    refine ⟨Nat.zero_le _, fun lf hlf => ?_⟩
    have sb : Same H4 (upd H4 lf (.lst [])) := Same.upd hlf
    have hb0 : (upd H4 lf (.lst [])) lf = some (.lst []) := upd_same
    generalize upd H4 lf (.lst []) = Hb at sb hb0
    have keep : ∀ {H5 : Hp}, (∀ c o, Hb c = some o → c ≠ lf → H5 c = some o) → Same H4 H5 := fun kk c o e => kk _ _ (sb _ _ e) (ne_of_none e hlf)
    refine ⟨_, rfl, lm, rfl, ⟨_, SqL.of (sb _ _ hmm)⟩, for_list (K := K) (a := lm) (xs := us) (fun j σ H5 => ∃ (v11 v12 v13 v14 : Option V) (as : List V), σ = [some (.ref ah), some (.ref aw), some (.ref al), some (.int (d : Int)), some (.ref an), some (.int w), some (V.ref ls), some (.ref lo), some (.ref lu), some (.ref lm), some (.ref lf), v11, v12, v13, v14, none, none] ∧ H5 lf = some (.lst as) ∧ (∀ c o, Hb c = some o → c ≠ lf → H5 c = some o) ∧ RdsL K (newIn Hb H5) (((mls.take j).map (twins d lns.length)).map dLine) as)
      ⟨none, none, none, none, [], rfl, hb0, fun c o e _ => e, rfl⟩ (fun j σ H5 _ ⟨_, _, _, _, _, _, _, kk, _⟩ => SqL.of (keep kk _ _ hmm)) ?_ ?_⟩
    · rintro j y σ H5 hy ⟨v11, v12, v13, v14, as, rfl, h5f, kk, hR⟩
      obtain ⟨dt, hdt, ry⟩ := hz5.get j y hy
      rw [List.getElem?_map] at hdt
      cases e : mls[j]? with
      | none => rw [e] at hdt; cases hdt
      | some qs =>
      rw [e] at hdt
      cases hdt
      have hj : j < mls.length := (List.getElem?_eq_some_iff.mp e).1
      have htk : mls.take (j + 1) = mls.take j ++ [qs] := by rw [List.take_add_one, e]; rfl
      have hql := hml qs (List.mem_of_getElem? e)
      obtain ⟨ay, rs, rfl, hSy, hT⟩ := line_refs ry
      have hrl : rs.length = qs.length := by rw [hT.1, List.length_map, List.length_map]
      have s45 := keep kk
      refine ⟨Nat.zero_le _, fun lt hlt => ?_⟩
      have st : Same H5 (upd H5 lt (.lst [])) := Same.upd hlt
      have ht0 : (upd H5 lt (.lst [])) lt = some (.lst []) := upd_same
      generalize upd H5 lt (.lst []) = Ht at st ht0
      have keept : ∀ {H6 : Hp}, (∀ c o, Ht c = some o → c ≠ lt → H6 c = some o) → Same H5 H6 := fun kk c o e => kk _ _ (st _ _ e) (ne_of_none e hlt)
      have nft : lf ≠ lt := ne_of_none h5f hlt
      refine ⟨_, rfl, ay, rfl, ⟨_, (s45.trans st).seq hSy⟩, for_list (K := K) (a := ay) (xs := rs.map V.ref) (fun i σ H6 => ∃ (v13 v14 : Option V) (bs : List V), σ = [some (.ref ah), some (.ref aw), some (.ref al), some (.int (d : Int)), some (.ref an), some (.int w), some (V.ref ls), some (.ref lo), some (.ref lu), some (.ref lm), some (.ref lf), some (.ref ay), some (.ref lt), v13, v14, none, none] ∧ H6 lt = some (.lst bs) ∧ (∀ c o, Ht c = some o → c ≠ lt → H6 c = some o) ∧ RdsL K (newIn Ht H6) ((twins d lns.length (qs.take i)).map dStep) bs)
        ⟨_, _, [], rfl, ht0, fun c o e _ => e, rfl⟩ (fun i σ H6 _ ⟨_, _, _, _, _, kt, _⟩ => (s45.trans (keept kt)).seq hSy) ?_ ?_⟩
      · rintro i y σ H6 hy ⟨v13, v14, bs, rfl, h6t, kt, hB⟩
        have hi : i < rs.length := by have := (List.getElem?_eq_some_iff.mp hy).1; rwa [List.length_map] at this
        have hiq : i < qs.length := by omega
        rw [List.getElem?_map, List.getElem?_eq_getElem hi] at hy
        cases hy
        have hTi : H4 rs[i] = some (.tup [.str qs[i].1, .int (qs[i].2 : Int)]) := hT.2 i rs[i] (pairL (stepQ qs[i])) (List.getElem?_eq_getElem hi) (by rw [List.getElem?_map, List.getElem?_map, List.getElem?_eq_getElem hiq]; rfl)
        have htq : qs.take (i + 1) = qs.take i ++ [qs[i]] := by rw [List.take_add_one, List.getElem?_eq_getElem hiq]; rfl
        have hbl : bs.length ≤ 2 * i := by
          rw [hB.len, List.length_map]
          exact Nat.le_trans (twins_len d lns.length _) (Nat.mul_le_mul_left 2 (by rw [List.length_take]; omega))
        generalize qs[i] = q at hTi htq
        have s56 := keept kt
        refine ⟨rs[i], _, rfl, SqT.of ((s45.trans s56) _ _ hTi), rfl, _, _, rfl, _, _, rfl, rfl, ?_⟩
        refine ⟨_, rfl, .inl ⟨rfl, _, SqL.of h6t⟩, _, rfl, _, rfl, by show 2 ≤ sizeLine; decide, fun r hr => ?_⟩
        refine ⟨lt, _, _, rfl, rfl, Same.upd hr _ _ h6t, bigL _ (by omega), ?_⟩
        have kp1 : ∀ c o, (upd H6 r (.tup [.str q.1, .int (q.2 : Int)])) c = some o → c ≠ lt → (upd (upd H6 r (.tup [.str q.1, .int (q.2 : Int)])) lt (.lst (bs ++ [.ref r]))) c = some o := fun c o e hc => by rw [upd_ne hc]; exact e
        have kk4 : ∀ c o, Ht c = some o → c ≠ lt → (upd (upd H6 r (.tup [.str q.1, .int (q.2 : Int)])) lt (.lst (bs ++ [.ref r]))) c = some o := fun c o e hc => kp1 _ _ (Same.upd hr _ _ (kt c o e hc)) hc
        have r0 : Ht r = none := by
          cases z : Ht r with
          | none => rfl
          | some o =>
            by_cases hc : r = lt
            · rw [hc, h6t] at hr; cases hr
            · rw [kt _ _ z hc] at hr; cases hr
        have hB4 : RdsL K (newIn Ht (upd (upd H6 r (.tup [.str q.1, .int (q.2 : Int)])) lt (.lst (bs ++ [.ref r])))) ((twins d lns.length (qs.take i)).map dStep ++ [dStep q]) (bs ++ [.ref r]) := by
          refine rdsL_snoc (RdsL.same ((newIn_same (Same.upd hr)).trans (newIn_keep ht0 kp1)) _ _ hB) ?_
          have nrl : r ≠ lt := fun z => by rw [z, h6t] at hr; cases hr
          exact ⟨r, _, rfl, newIn_at r0 (by rw [upd_ne nrl, upd_same]), .str q.1, [.int (q.2 : Int)], rfl, ⟨rfl, rfl⟩, .int (q.2 : Int), [], rfl, ⟨rfl, rfl⟩, rfl⟩
        have h7t : (upd (upd H6 r (.tup [.str q.1, .int (q.2 : Int)])) lt (.lst (bs ++ [.ref r]))) lt = some (.lst (bs ++ [.ref r])) := upd_same
        generalize upd (upd H6 r (.tup [.str q.1, .int (q.2 : Int)])) lt (.lst (bs ++ [.ref r])) = H7 at kk4 hB4 h7t
        have s17 : Same H1 H7 := so3.trans (so4.trans (s45.trans (keept kk4)))
        by_cases hq2 : q.2 = d
        · refine ⟨_, rfl, _, rfl, rfl, true, congrArg V.bl (decide_eq_true (by rw [hq2])), iteT ?_⟩
          refine ⟨_, rfl, .inl ⟨rfl, _, SqL.of h7t⟩, _, rfl, _, rfl, al, xs, rfl, .inl (s17.seq (.inl hc)), by show 2 ≤ sizeLine; decide, fun r2 hr2 => ?_⟩
          rw [xl] at *
          refine ⟨lt, _, _, rfl, rfl, Same.upd hr2 _ _ h7t, bigL _ (by rw [List.length_append, List.length_singleton]; omega), ?_⟩
          have kp2 : ∀ c o, (upd H7 r2 (.tup [.str q.1, .int (lns.length : Int)])) c = some o → c ≠ lt → (upd (upd H7 r2 (.tup [.str q.1, .int (lns.length : Int)])) lt (.lst (bs ++ [.ref r] ++ [.ref r2]))) c = some o := fun c o e hc => by rw [upd_ne hc]; exact e
          have r20 : Ht r2 = none := by
            cases z : Ht r2 with
            | none => rfl
            | some o =>
              by_cases hc : r2 = lt
              · rw [hc, h7t] at hr2; cases hr2
              · rw [kk4 _ _ z hc] at hr2; cases hr2
          refine ⟨_, _, _, rfl, upd_same, fun c o e hc => kp2 _ _ (Same.upd hr2 _ _ (kk4 c o e hc)) hc, ?_⟩
          rw [htq, twins_snoc, if_pos hq2, List.map_append]
          have em : ([q, (q.1, lns.length)] : List (Str × Nat)).map dStep = [dStep q] ++ [dStep (q.1, lns.length)] := rfl
          rw [em, ← List.append_assoc]
          refine rdsL_snoc (RdsL.same ((newIn_same (Same.upd hr2)).trans (newIn_keep ht0 kp2)) _ _ hB4) ?_
          have nrl : r2 ≠ lt := fun z => by rw [z, h7t] at hr2; cases hr2
          exact ⟨r2, _, rfl, newIn_at r20 (by rw [upd_ne nrl, upd_same]), .str q.1, [.int (lns.length : Int)], rfl, ⟨rfl, rfl⟩, .int (lns.length : Int), [], rfl, ⟨rfl, rfl⟩, rfl⟩
        · refine ⟨_, rfl, _, rfl, rfl, false, congrArg V.bl (decide_eq_false fun z => hq2 (by have := V.int.inj z; omega)), iteF ?_⟩
          refine ⟨_, _, _, rfl, h7t, kk4, ?_⟩
          rw [htq, twins_snoc, if_neg hq2, List.map_append]
          exact hB4
      rintro σ H6 ⟨v13, v14, bs, rfl, h6t, kt, hB⟩
      rw [List.length_map, hrl, List.take_length] at hB
      have s56 := keept kt
      have h6f := s56 _ _ h5f
      have asl : as.length = j := by
        rw [hR.len, List.length_map, List.length_map, List.length_take]
        omega
      have kp : ∀ b o, H6 b = some o → b ≠ lf → (upd H6 lf (.lst (as ++ [.ref lt]))) b = some o := fun b o e hb => by rw [upd_ne hb]; exact e
      refine ⟨_, rfl, .inl ⟨rfl, _, SqL.of h6f⟩, _, rfl, lf, _, _, rfl, rfl, h6f, bigL _ (by omega), ?_⟩
      have hlt0 : Hb lt = none := by
        cases z : Hb lt with
        | none => rfl
        | some o => rw [kk _ _ z nft.symm] at hlt; cases hlt
      have old : Same (newIn Ht H6) (newIn Hb H6) := fun c o e => by
        unfold newIn at e ⊢
        cases q : Hb c with
        | none =>
          cases q2 : Ht c with
          | none => rw [q2] at e; exact e
          | some z => rw [q2] at e; cases e
        | some z =>
          by_cases hc : c = lf
          · rw [hc, st _ _ h5f] at e; cases e
          · rw [st _ _ (kk _ _ q hc)] at e; cases e
      refine ⟨_, _, _, _, as ++ [.ref lt], rfl, upd_same, fun c o e hc => kp _ _ (s56 _ _ (kk c o e hc)) hc, ?_⟩
      rw [htk, List.map_append, List.map_append]
      refine rdsL_snoc (RdsL.same ((newIn_same s56).trans (newIn_keep hb0 kp)) _ _ hR) ?_
      exact ⟨lt, bs, rfl, .inl (newIn_at hlt0 (kp _ _ h6t nft.symm)), RdsL.same (old.trans (newIn_keep hb0 kp)) _ _ hB⟩
    · rintro σ H5 ⟨v11, v12, v13, v14, as, rfl, h5f, kk, hR⟩
      rw [ul, List.take_length] at hR
      have s05 := s04.trans (keep kk)
      have hw := rd_ints rw'
      have hh := rd_strs rh
      have hdw : d < ws.length := by omega
      have hatw : atI (ws.map V.int) (d : Int) = some (.int (ws.getD d 0)) := atI_nat (by rw [List.getElem?_map, List.getElem?_eq_getElem hdw, List.getD_eq_getElem?_getD, List.getElem?_eq_getElem hdw]; rfl)
      have hath : atI (hs.map V.str) (d : Int) = some (.str (hs.getD d "")) := atI_nat (by rw [List.getElem?_map, List.getElem?_eq_getElem hd, List.getD_eq_getElem?_getD, List.getElem?_eq_getElem hd]; rfl)
      refine ⟨_, rfl, _, rfl, aw, _, _, _, rfl, rfl, s05.seq (.inl hw), hatw, _, rfl, _, _, rfl, rfl, ?_⟩
      show gName 15 (V.int (ws.getD d 0 - w)) _ _ _
      -- heavy
      refine ⟨_, rfl, _, rfl, _, rfl, aw, _, rfl, s05.seq (.inl hw), fun l6 hl6 => ?_⟩
      rw [cut_to (ws.map V.int) d (by rw [List.length_map]; omega), ← List.map_take]
      refine ⟨_, rfl, by show 1 ≤ sizeLine; decide, fun l7 hl7 => ?_⟩
      refine ⟨l6, l7, _, [.int w], rfl, rfl, .inl (Same.upd hl7 _ _ upd_same), .inl upd_same, big _ (by rw [List.length_map, List.length_take]; show min d ws.length + 1 ≤ _; omega), fun l8 hl8 => ?_⟩
      have s58 : Same H5 (upd (upd (upd H5 l6 (.lst ((ws.take d).map V.int))) l7 (.lst [.int w])) l8 (.lst ((ws.take d).map V.int ++ [.int w]))) := ((Same.upd hl6).trans (Same.upd hl7)).trans (Same.upd hl8)
      have h8 : (upd (upd (upd H5 l6 (.lst ((ws.take d).map V.int))) l7 (.lst [.int w])) l8 (.lst ((ws.take d).map V.int ++ [.int w]))) l8 = some (.lst ((ws.take d).map V.int ++ [.int w])) := upd_same
      generalize upd (upd (upd H5 l6 (.lst ((ws.take d).map V.int))) l7 (.lst [.int w])) l8 (.lst ((ws.take d).map V.int ++ [.int w])) = H8 at s58 h8
      refine ⟨_, rfl, _, rfl, _, _, rfl, rfl, _, rfl, aw, _, rfl, (s05.trans s58).seq (.inl hw), fun l9 hl9 => ?_⟩
      have ed : ((d : Int) + 1) = ((d + 1 : Nat) : Int) := by omega
      rw [ed, cut_from, ← List.map_drop]
      refine ⟨l8, l9, _, _, rfl, rfl, .inl (Same.upd hl9 _ _ h8), .inl upd_same, big _ (by rw [List.length_append, List.length_map, List.length_map, List.length_take, List.length_drop]; show min d ws.length + 1 + (ws.length - (d + 1)) ≤ _; omega), fun lv hlv => ?_⟩
      have eh : (ws.take d).map V.int ++ [V.int w] ++ (ws.drop (d + 1)).map V.int = (ws.take d ++ [w] ++ ws.drop (d + 1)).map V.int := by rw [List.map_append, List.map_append]; rfl
      rw [eh]
      have s8v : Same H8 (upd (upd H8 l9 (.lst ((ws.drop (d + 1)).map V.int))) lv (.lst ((ws.take d ++ [w] ++ ws.drop (d + 1)).map V.int))) := (Same.upd hl9).trans (Same.upd hlv)
      have hvv : (upd (upd H8 l9 (.lst ((ws.drop (d + 1)).map V.int))) lv (.lst ((ws.take d ++ [w] ++ ws.drop (d + 1)).map V.int))) lv = some (.lst ((ws.take d ++ [w] ++ ws.drop (d + 1)).map V.int)) := upd_same
      generalize upd (upd H8 l9 (.lst ((ws.drop (d + 1)).map V.int))) lv (.lst ((ws.take d ++ [w] ++ ws.drop (d + 1)).map V.int)) = Hv at s8v hvv
      have s5v := s58.trans s8v
      have s0v := s05.trans s5v
      -- the tuple
      refine ⟨_, rfl, _, rfl, _, rfl, ah, _, _, _, rfl, rfl, s0v.seq (.inl hh), hath, by show 1 ≤ sizeLine; decide, fun l10 hl10 => ?_⟩
      refine ⟨ah, l10, _, [.str (hs.getD d "")], rfl, rfl, rd_same (s0v.trans (Same.upd hl10)) hh, .inl upd_same, big _ (by rw [List.length_map]; show hs.length + 1 ≤ _; omega), fun lh hlh => ?_⟩
      have ecath : hs.map V.str ++ [V.str (hs.getD d "")] = (splitH hs d).map V.str := by unfold splitH; rw [List.map_append]; rfl
      rw [ecath]
      have svh : Same Hv (upd (upd Hv l10 (.lst [.str (hs.getD d "")])) lh (.lst ((splitH hs d).map V.str))) := (Same.upd hl10).trans (Same.upd hlh)
      have hhh : (upd (upd Hv l10 (.lst [.str (hs.getD d "")])) lh (.lst ((splitH hs d).map V.str))) lh = some (.lst ((splitH hs d).map V.str)) := upd_same
      generalize upd (upd Hv l10 (.lst [.str (hs.getD d "")])) lh (.lst ((splitH hs d).map V.str)) = Hh at svh hhh
      refine ⟨_, rfl, _, rfl, by show 1 ≤ sizeLine; decide, fun l11 hl11 => ?_⟩
      refine ⟨lv, l11, _, [.int (ws.getD d 0 - w)], rfl, rfl, .inl (Same.upd hl11 _ _ (svh _ _ hvv)), .inl upd_same, big _ (by rw [List.length_map, List.length_append, List.length_append, List.length_take, List.length_drop]; show min d ws.length + 1 + (ws.length - (d + 1)) + 1 ≤ _; omega), fun lz hlz => ?_⟩
      have ez : (ws.take d ++ [w] ++ ws.drop (d + 1)).map V.int ++ [V.int (ws.getD d 0 - w)] = (splitW ws d w).map V.int := by rw [splitW_eq hdw, List.map_append (l₂ := [_])]; rfl
      rw [ez]
      have shz : Same Hh (upd (upd Hh l11 (.lst [.int (ws.getD d 0 - w)])) lz (.lst ((splitW ws d w).map V.int))) := (Same.upd hl11).trans (Same.upd hlz)
      have hzz : (upd (upd Hh l11 (.lst [.int (ws.getD d 0 - w)])) lz (.lst ((splitW ws d w).map V.int))) lz = some (.lst ((splitW ws d w).map V.int)) := upd_same
      generalize upd (upd Hh l11 (.lst [.int (ws.getD d 0 - w)])) lz (.lst ((splitW ws d w).map V.int)) = Hz at shz hzz
      refine ⟨_, rfl, by show 3 ≤ sizeLine; decide, fun p hp => ?_⟩
      have sp : Same Hz (upd Hz p (.tup [.ref lh, .ref lz, .ref lf])) := Same.upd hp
      have s5z := s5v.trans (svh.trans shz)
      refine k p _ ((s05.trans s5z).trans sp) ⟨p, _, rfl, upd_same, .ref lh, [.ref lz, .ref lf], rfl, strs_rds (sp _ _ (shz _ _ hhh)), .ref lz, [.ref lf], rfl, ints_rds (sp _ _ hzz), .ref lf, [], rfl, ⟨lf, as, rfl, .inl (sp _ _ (s5z _ _ h5f)), RdsL.same ((newIn_sub _ _).trans (s5z.trans sp)) _ _ hR⟩, rfl⟩
end
end K32

set_option Elab.async false
set_option linter.all false
set_option maxRecDepth 100000
set_option maxHeartbeats 4000000
namespace K32
open PySem L2 Bs Sx
section
variable {P : Program} {w : World} {K : PySem.W.Frag} {mg : Str → Option Value} {base : Heap}
theorem eqI : ∀ ws : List Int, eqVs (ws.map V.int) (ws.map V.int) = true
  | [] => rfl
  | w :: ws => by
    show ((w == w) && eqVs (ws.map V.int) (ws.map V.int)) = true
    rw [eqI ws]
    simp
theorem dLine_dep : ∀ qs : List (Str × Nat), depL (qs.map dStep) ≤ 1
  | [] => Nat.zero_le _
  | q :: qs => by
    show max (dep (dStep q)) (depL (qs.map dStep)) ≤ 1
    exact Nat.max_le.mpr ⟨Nat.le_refl 1, dLine_dep qs⟩
theorem dLines_dep : ∀ lns : List (List (Str × Nat)), depL (lns.map dLine) ≤ 2
  | [] => Nat.zero_le _
  | l :: lns => by
    show max (dep (dLine l)) (depL (lns.map dLine)) ≤ 2
    refine Nat.max_le.mpr ⟨?_, dLines_dep lns⟩
    show depL (l.map dStep) + 1 ≤ 2
    have := dLine_dep l
    omega
def spIsSheet2 (K : PySem.W.Frag) (C : Addr) : Sp := fun vs H Q _ => ∃ (x : Addr) (v : V) (hs : List Str) (ws : List Int) (lns : List (List (Str × Nat))), vs = [.ref x, v] ∧ SheetAt K C H x hs ws lns ∧ Rds K H (dSheet hs ws lns) v ∧ hs.length ≤ 10000 ∧ ws.length ≤ 10000 ∧ lns.length ≤ 10000 ∧ ∀ H', Same H H' → Q (.bl true) H'
theorem dAt_dep {α : Type} (f : α → V) : ∀ zs : List α, depL (zs.map fun z => Dat.at (f z)) ≤ 0
  | [] => Nat.le_refl _
  | z :: zs => by
    show max (dep (Dat.at (f z))) (depL (zs.map fun z => Dat.at (f z))) ≤ 0
    exact Nat.max_le.mpr ⟨Nat.le_refl 0, dAt_dep f zs⟩
theorem dSheet_dep (hs : List Str) (ws : List Int) (lns : List (List (Str × Nat))) : depL [dStrs hs, dInts ws, dLines lns] ≤ 50 := by
  show max (dep (dStrs hs)) (max (dep (dInts ws)) (max (dep (dLines lns)) 0)) ≤ 50
  have h1 : dep (dStrs hs) ≤ 1 := Nat.succ_le_succ (dAt_dep V.str hs)
  have h2 : dep (dInts ws) ≤ 1 := Nat.succ_le_succ (dAt_dep V.int ws)
  have h3 : dep (dLines lns) ≤ 3 := Nat.succ_le_succ (dLines_dep lns)
  omega
theorem sc__law_is_sheet : FnScope ["_law_found", "_law_due"] ["_law_found", "_law_due"] (defScope (top 32)) := ⟨rfl, rfl, rfl, by decide +kernel, rfl, by decide +kernel, by decide +kernel⟩
theorem ok__law_is_sheet (L : Lk K mg) : FnOk P w K mg base CX0 1 L.f__law_is_sheet L.d__law_is_sheet ["_law_found", "_law_due"] (spIsSheet2 K L.c_Sheet) := by
  have T := L.T
  refine L.a__law_is_sheet.F.ok sc__law_is_sheet (fun vs H Q E h => ?_) (fun cdv A outer s H vs Q E hr h => ?_)
  · obtain ⟨x, v, hs, ws, lns, rfl, _⟩ := h
    rfl
  · obtain ⟨x, v, hs, ws, lns, rfl, S, hv1, n1, n2, n3, k⟩ := h
    have hu6 := hu6_of hr
    refine ⟨_, (pss_cons (ps_if (PW.pt (pw_or (pt_not (pt_val (pe_callB call_isiO (by rfl) T.isi bIsi (pa_cons (pv 0) (pa_cons (pe_glob (v := .ref L.c_Sheet) (by rfl) L.g_Sheet rfl) pa_nil))))) (pw_or (pt_not (pt_val (pe_callB call_isinst (by rfl) T.isi bIsi (pa_cons (pe_fld (pv 0) rfl) (pa_cons (pe_bltn (v := .ty "list") (by rfl) T.list bList rfl) pa_nil))))) (pw_or1 (pt_not (pt_val (pe_callB call_isinst (by rfl) T.isi bIsi (pa_cons (pe_fld (pv 0) rfl) (pa_cons (pe_bltn (v := .ty "list") (by rfl) T.list bList rfl) pa_nil))))))))) (pss_one (ps_ret pe_bl)) pss_nil)
        (pss_cons (ps_if (PW.pt (pw_or (pt_not (pt_val (pe_callB call_isinst (by rfl) T.isi bIsi (pa_cons (pe_fld (pv 0) rfl) (pa_cons (pe_bltn (v := .ty "list") (by rfl) T.list bList rfl) pa_nil))))) (pw_or1 (pt_not (pt_val (pe_callB (call_all rfl) (by rfl) T.all bAll (pa_cons (pe_comp rfl (blockOk_of (sc := defScope (top 32)) (N := ["_law_found", "_law_due"]) (ys := []) (ix := []) rfl rfl (by decide +kernel)) (pi_list (pe_fld (pv 0) rfl)) (fun _ _ _ _ _ _ => pts_nil) (fun _ _ _ _ _ _ => (pe_callB (call_isinstK (K := K) rfl) (by rfl) T.isi bIsi (pa_cons (pv 0) (pa_cons (pe_bltn (v := .ty "list") (by rfl) T.list bList rfl) pa_nil))))) pa_nil))))))) (pss_one (ps_ret pe_bl)) pss_nil)
        (pss_cons (ps_if (pt_not (pt_val (pe_callB (call_all rfl) (by rfl) T.all bAll (pa_cons (pe_comp rfl (blockOk_of (sc := defScope (top 32)) (N := ["_law_found", "_law_due"]) (ys := []) (ix := []) rfl rfl (by decide +kernel)) (pi_list (pe_fld (pv 0) rfl)) (fun _ _ _ _ _ _ => pts_nil) (fun _ _ _ _ _ _ => (pe_and (pe_callB (call_isinstK (K := K) rfl) (by rfl) T.isi bIsi (pa_cons (pv 0) (pa_cons (pe_bltn (v := .ty "int") (by rfl) T.int bInt rfl) pa_nil))) (pe_one (pe_not (pe_callB (call_isinstK (K := K) rfl) (by rfl) T.isi bIsi (pa_cons (pv 0) (pa_cons (pe_bltn (v := .ty "bool") (by rfl) T.bool bBool rfl) pa_nil)))))))) pa_nil)))) (pss_one (ps_ret pe_bl)) pss_nil)
        (pss_one (ps_ret (pe_cmpR (op_eqDp hu6) (pe_tup (pa_cons (pe_fld (pv 0) rfl) (pa_cons (pe_fld (pv 0) rfl) (pa_cons (pe_fld (pv 0) rfl) pa_nil)))) (pv 1) (nomark _))))))), ?_⟩
    obtain ⟨dx, a, b, c, hx, ra, rb, rc⟩ := S
    obtain ⟨a', ea, ha⟩ := rds_strs ra
    cases ea
    obtain ⟨b', eb, hb⟩ := rds_ints rb
    cases eb
    obtain ⟨_, xa, ea, hra, _⟩ := id ra
    cases ea
    obtain ⟨_, xb, eb, hrb, _⟩ := id rb
    cases eb
    obtain ⟨c', xs, ec, hc, hcl⟩ := id rc
    cases ec
    have xl : xs.length = lns.length := by rw [hcl.len, List.length_map]
    refine ⟨_, rfl, x, L.c_Sheet, dx, _, rfl, hx, L.cl_Sheet.cl, L.Y_Sheet, L.mo_Sheet, true, rfl, iteF ?_⟩
    refine ⟨_, rfl, x, L.c_Sheet, dx, _, _, rfl, hx, L.cl_Sheet.cl, L.cl_Sheet.n_homes, lookS_homes a b c, _, _, _, true, rfl, TyOf.rd hra, rfl, true, rfl, iteF ?_⟩
    refine ⟨_, rfl, x, L.c_Sheet, dx, _, _, rfl, hx, L.cl_Sheet.cl, L.cl_Sheet.n_weights, lookS_weights a b c, _, _, _, true, rfl, TyOf.rd hrb, rfl, true, rfl, iteF ?_⟩
    refine ⟨_, rfl, x, L.c_Sheet, dx, _, _, rfl, hx, L.cl_Sheet.cl, L.cl_Sheet.n_lines, lookS_lines a b c, _, _, _, true, rfl, TyOf.rd hc, rfl, true, rfl, iteF ?_⟩
    -- all lines are lists
    refine ⟨_, rfl, x, L.c_Sheet, dx, _, _, rfl, hx, L.cl_Sheet.cl, L.cl_Sheet.n_lines, lookS_lines a b c, c, rfl, ⟨_, .inl hc⟩, fun l1 hl1 => ?_⟩
    refine comp_map (fun _ => V.bl true) (itIs_list K c xs) hl1 (small16 (by omega)) (fun H' s' => s'.seq (.inl hc)) (fun z H2 Q' hz s2 qq => ?_) (fun H2 s2 h2 => ?_)
    · obtain ⟨i, hi, rfl⟩ := List.getElem_of_mem hz
      obtain ⟨d, hd, r⟩ := hcl.get i _ (List.getElem?_eq_getElem hi)
      rw [List.getElem?_map] at hd
      cases e : lns[i]? with
      | none => rw [e] at hd; cases hd
      | some qs =>
        rw [e] at hd
        cases hd
        obtain ⟨al, ys, el, hal, _⟩ := r
        rw [el]
        exact ⟨_, rfl, _, _, _, true, rfl, TyOf.rd (rd_same s2 hal), rfl, qq H2 (Same.refl _)⟩
    have et : ∀ l : List V, l.map (fun _ => V.bl true) = (l.map fun _ => true).map V.bl := fun l => by rw [List.map_map]; rfl
    have ea : ∀ l : List V, ((l.map fun _ => true).all id) = true := fun l => by rw [List.all_map]; exact List.all_eq_true.mpr fun _ _ => rfl
    rw [et] at h2
    refine ⟨l1, _, rfl, SqL.of h2, true, congrArg V.bl (ea xs), iteF ?_⟩
    -- all weights are whole numbers
    refine ⟨_, rfl, x, L.c_Sheet, dx, _, _, rfl, s2 _ _ hx, L.cl_Sheet.cl, L.cl_Sheet.n_weights, lookS_weights a b c, b, rfl, ⟨_, s2.seq hb⟩, fun l2 hl2 => ?_⟩
    refine comp_map (fun _ => V.bl true) (itIs_list K b (ws.map V.int)) hl2 (by rw [List.length_map]; exact small16 (by omega)) (fun H' s' => (s2.trans s').seq hb) (fun z H3 Q' hz s3 qq => ?_) (fun H3 s3 h3 => ?_)
    · obtain ⟨q, _, rfl⟩ := List.mem_map.mp hz
      exact ⟨_, rfl, _, _, _, true, rfl, TyOf.int q, rfl, true, rfl, iteT ⟨_, rfl, _, _, _, false, rfl, TyOf.int q, rfl, false, rfl, qq H3 (Same.refl _)⟩⟩
    rw [et] at h3
    refine ⟨l2, _, rfl, SqL.of h3, true, congrArg V.bl (ea (ws.map V.int)), iteF ?_⟩
    have s13 := s2.trans s3
    -- the parts
    refine ⟨_, rfl, x, L.c_Sheet, dx, _, _, rfl, s13 _ _ hx, L.cl_Sheet.cl, L.cl_Sheet.n_homes, lookS_homes a b c, _, rfl, x, L.c_Sheet, dx, _, _, rfl, s13 _ _ hx, L.cl_Sheet.cl, L.cl_Sheet.n_weights, lookS_weights a b c, _, rfl, x, L.c_Sheet, dx, _, _, rfl, s13 _ _ hx, L.cl_Sheet.cl, L.cl_Sheet.n_lines, lookS_lines a b c, by show 3 ≤ sizeLine; decide, fun p hp => ?_⟩
    have sp : Same H3 (upd H3 p (.tup [.ref a, .ref b, .ref c])) := Same.upd hp
    have s0p := s13.trans sp
    exact ⟨_, rfl, [dStrs hs, dInts ws, dLines lns], dSheet_dep hs ws lns, .inr ⟨⟨p, _, rfl, upd_same, .ref a, [.ref b, .ref c], rfl, Rds.same s0p _ _ ra, .ref b, [.ref c], rfl, Rds.same s0p _ _ rb, .ref c, [], rfl, Rds.same s0p _ _ rc, rfl⟩, Rds.same s0p _ _ hv1⟩, k _ s0p⟩
theorem pickF_none {α : Type} {p : Nat → Bool} : ∀ (k : Nat) (xs : List α), (∀ i, k ≤ i → i < k + xs.length → p i = false) → pickF p k xs = []
  | _, [], _ => rfl
  | k, x :: xs, h => by
    show (if p k then x :: pickF p (k + 1) xs else pickF p (k + 1) xs) = []
    rw [h k (Nat.le_refl _) (by rw [List.length_cons]; omega), if_neg Bool.false_ne_true]
    exact pickF_none (k + 1) xs fun i h1 h2 => h i (by omega) (by rw [List.length_cons]; omega)
theorem no_desk {ws : List Int} {lns : List (List (Str × Nat))} {many desk w : Int} {ns : List Int} (h : numOk desk lns.length = false) : splitOk ws lns many desk ns w = false := by
  unfold splitOk
  rw [h, Bool.false_and]
theorem no_num {ws : List Int} {lns : List (List (Str × Nat))} {many w : Int} {d : Nat} {qd : List (Str × Nat)} {ns : List Int} (hd : lns[d]? = some qd) {i : Int} (hi : i ∈ ns) (h : numOk i qd.length = false) : splitOk ws lns many (d : Int) ns w = false := by
  have hgd : lns.getD ((d : Int)).toNat [] = qd := by rw [Int.toNat_natCast, List.getD_eq_getElem?_getD, hd]; rfl
  have : ns.all (fun i => numOk i qd.length) = false := by
    cases e : ns.all (fun i => numOk i qd.length) with
    | false => rfl
    | true => rw [List.all_eq_true.mp e i hi] at h; cases h
  unfold splitOk
  rw [hgd, this, Bool.false_and, Bool.and_false]
theorem no_some {ws : List Int} {lns : List (List (Str × Nat))} {many w : Int} {d : Nat} {qd : List (Str × Nat)} {ns : List Int} (hd : lns[d]? = some qd) (h : partOk ws many (chosenOf ns qd) w = false) : splitOk ws lns many (d : Int) ns w = false := by
  have hgd : lns.getD ((d : Int)).toNat [] = qd := by rw [Int.toNat_natCast, List.getD_eq_getElem?_getD, hd]; rfl
  unfold splitOk
  rw [hgd, h, Bool.false_and, Bool.and_false, Bool.and_false]
theorem no_rest {ws : List Int} {lns : List (List (Str × Nat))} {many w : Int} {d : Nat} {qd : List (Str × Nat)} {ns : List Int} (hd : lns[d]? = some qd) (h : partOk ws many (othersOf ns qd) (ws.getD d 0 - w) = false) : splitOk ws lns many (d : Int) ns w = false := by
  have hgd : lns.getD ((d : Int)).toNat [] = qd := by rw [Int.toNat_natCast, List.getD_eq_getElem?_getD, hd]; rfl
  unfold splitOk
  rw [hgd, Int.toNat_natCast, h, Bool.and_false, Bool.and_false, Bool.and_false]
theorem part_low {ws : List Int} {many w : Int} {qs : List (Str × Nat)} (h : w < 1) : partOk ws many qs w = false := by
  unfold partOk
  rw [decide_eq_false (show ¬ 1 ≤ w by omega), Bool.false_and, Bool.and_false]
theorem p9 : CPow 10 9 := ⟨by decide, by decide, by decide⟩
theorem num_low {i : Int} {n : Nat} (h : i < 0) : numOk i n = false := by
  unfold numOk
  rw [decide_eq_false (show ¬ 0 ≤ i by omega), Bool.false_and]
theorem num_high {i : Int} {n : Nat} (h : (n : Int) ≤ i) : numOk i n = false := by
  unfold numOk
  rw [decide_eq_false (show ¬ i < (n : Int) by omega), Bool.and_false]
def spTurned (K : PySem.W.Frag) : Sp := fun vs H Q _ => ∃ (c : Int) (p an : Addr) (d m : Nat) (hs : List Str) (ws ns : List Int) (lns : List (List (Str × Nat))), vs = [.int c, .ref p, .int (d : Int), .ref an] ∧ Rds K H (dSheet hs ws lns) (.ref p) ∧ S32 m hs ws lns ∧ d < hs.length ∧ SqL K H an (ns.map V.int) ∧ ns.length = m ∧ 2 ≤ m ∧ m ≤ 8 ∧
  ∀ (pt a' : Addr) (desk' w' : Int) (ns' : List Int) (H' : Hp), Same H H' → H' pt = some (.tup [.int desk', .ref a', .int w']) → SqL K H' a' (ns'.map V.int) → ns'.length ≤ 100 → splitOk ws lns (m : Int) desk' ns' w' = false → Q (.ref pt) H'
theorem sc__law_turned : FnScope ["_law_cell", "_law_here", "_law_desk", "_law_numbers", "_law_homes", "_law_weights", "_law_lines", "_law_way", "_law_at", "_law_more"] ["_law_cell", "_law_here", "_law_desk", "_law_numbers"] (defScope (top 33)) := ⟨rfl, rfl, rfl, by decide +kernel, rfl, by decide +kernel, by decide +kernel⟩
theorem ok__law_turned (L : Lk K mg) : FnOk P w K mg base CX0 2 L.f__law_turned L.d__law_turned ["_law_cell", "_law_here", "_law_desk", "_law_numbers"] (spTurned K) := by
  have T := L.T
  refine L.a__law_turned.F.ok sc__law_turned (fun vs H Q E h => ?_) (fun cdv A outer s H vs Q E hr h => ?_)
  · obtain ⟨c, p, an, d, m, hs, ws, ns, lns, rfl, _⟩ := h
    rfl
  · obtain ⟨c, p, an, d, m, hs, ws, ns, lns, rfl, rP, S, hd, hA, hnl, m2, m8, k⟩ := h
    refine ⟨_, (pss_cons (ps_asg (pv 1) (pg_tup rfl (pgs_cons (pg_name (i := 4) sc__law_turned.nd rfl (Or.inl rfl)) (pgs_cons (pg_name (i := 5) sc__law_turned.nd rfl (Or.inl rfl)) (pgs_cons (pg_name (i := 6) sc__law_turned.nd rfl (Or.inl rfl)) pgs_nil)))))
        (pss_cons (ps_set (i := 7) sc__law_turned.nd rfl (Or.inl rfl) (pe_call (ok__law_mixed L) (hr.mono (by decide)) rfl L.a__law_mixed.g L.a__law_mixed.F.kp L.a__law_mixed.b .nil pass0 (pa_cons (pv 0) (pa_cons pe_int (pa_cons pe_int pa_nil)))))
        (pss_cons (ps_set (i := 8) sc__law_turned.nd rfl (Or.inl rfl) (pe_call (ok__law_mixed L) (hr.mono (by decide)) rfl L.a__law_mixed.g L.a__law_mixed.F.kp L.a__law_mixed.b .nil pass0 (pa_cons (pv 0) (pa_cons pe_int (pa_cons pe_int pa_nil)))))
        (pss_cons (ps_if (pt_cmpR op_eq (pv 7) pe_int (nomark _)) (pss_one (ps_ret (pe_tup (pa_cons (pe_ix ix_list (pe_lst (pa_cons (pe_un un_neg pe_int) (pa_cons (pe_callB call_len_seq (by rfl) T.len PySem.boot_len (pa_cons (pv 4) pa_nil)) (pa_cons (pe_op op_add (pe_callB call_len_seq (by rfl) T.len PySem.boot_len (pa_cons (pv 4) pa_nil)) (pe_call (ok__law_mixed L) (hr.mono (by decide)) rfl L.a__law_mixed.g L.a__law_mixed.F.kp L.a__law_mixed.b .nil pass0 (pa_cons (pv 0) (pa_cons pe_int (pa_cons (pe_op op_pow pe_int pe_int) pa_nil))))) pa_nil)))) (pv 8) (fun _ _ => rfl)) (pa_cons (pv 3) (pa_cons pe_int pa_nil)))))) pss_nil)
        (pss_cons (ps_if (pt_cmpR op_eq (pv 7) pe_int (nomark _)) (pss_cons (ps_set (i := 9) sc__law_turned.nd rfl (Or.inl rfl) (pe_ix ix_list (pe_lst (pa_cons (pe_un un_neg pe_int) (pa_cons (pe_callB call_len_seq (by rfl) T.len PySem.boot_len (pa_cons (pe_ix ix_list (pv 6) (pv 2) (fun _ _ => rfl)) pa_nil)) (pa_cons (pe_op op_add (pe_callB call_len_seq (by rfl) T.len PySem.boot_len (pa_cons (pe_ix ix_list (pv 6) (pv 2) (fun _ _ => rfl)) pa_nil)) (pe_call (ok__law_mixed L) (hr.mono (by decide)) rfl L.a__law_mixed.g L.a__law_mixed.F.kp L.a__law_mixed.b .nil pass0 (pa_cons (pv 0) (pa_cons pe_int (pa_cons (pe_op op_pow pe_int pe_int) pa_nil))))) pa_nil)))) (pv 8) (fun _ _ => rfl)))
        (pss_one (ps_ret (pe_tup (pa_cons (pv 2) (pa_cons (pe_op op_cat (pe_op op_cat (pe_slice sl_list (pv 3) po_none (po_some (pv 8))) (pe_lst (pa_cons (pv 9) pa_nil))) (pe_slice sl_list (pv 3) (po_some (pv 8)) po_none)) (pa_cons pe_int pa_nil))))))) pss_nil)
        (pss_cons (ps_if (pt_cmpR op_eq (pv 7) pe_int (nomark _)) (pss_one (ps_ret (pe_tup (pa_cons (pv 2) (pa_cons (pe_ix ix_list (pe_lst (pa_cons (pe_lst pa_nil) (pa_cons (pe_callTy (call_listR rfl) (by rfl) T.list bList (pa_cons (pe_callTy call_range1 (by rfl) T.range bRange' (pa_cons (pe_callB call_len_seq (by rfl) T.len PySem.boot_len (pa_cons (pe_ix ix_list (pv 6) (pv 2) (fun _ _ => rfl)) pa_nil)) pa_nil)) pa_nil)) (pa_cons (pe_lst pa_nil) pa_nil)))) (pv 8) (fun _ _ => rfl)) (pa_cons pe_int pa_nil)))))) pss_nil)
        (pss_one (ps_ret (pe_tup (pa_cons (pv 2) (pa_cons (pv 3) (pa_cons (pe_op op_add (pe_ix ix_list (pe_lst (pa_cons pe_int (pa_cons (pe_un un_neg pe_int) (pa_cons (pe_ix ix_list (pv 5) (pv 2) (fun _ _ => rfl)) pa_nil)))) (pv 8) (fun _ _ => rfl)) (pe_op op_mul (pe_call (ok__law_mixed L) (hr.mono (by decide)) rfl L.a__law_mixed.g L.a__law_mixed.F.kp L.a__law_mixed.b .nil pass0 (pa_cons (pv 0) (pa_cons pe_int (pa_cons pe_int pa_nil)))) (pe_callTy call_int1 (by rfl) T.int bInt (pa_cons (pe_cmpR op_eq (pv 8) pe_int (nomark _)) pa_nil)))) pa_nil)))))))))))), ?_⟩
    obtain ⟨_, ts, e0, hp, rT⟩ := id rP
    cases e0
    obtain ⟨u1, t1, rfl, rh, u2, t2, rfl, rw', u3, t3, rfl, rl, et⟩ := rT
    cases (show t3 = [] from et)
    obtain ⟨ah, rfl, hah⟩ := rds_strs rh
    obtain ⟨aw, rfl, haw⟩ := rds_ints rw'
    obtain ⟨al, xs, rfl, hal, hcl⟩ := id rl
    have hwl := S.w
    have hll := S.l
    have hdl : d < lns.length := by omega
    have hdw : d < ws.length := by omega
    obtain ⟨qd, hqd⟩ : ∃ qd, lns[d]? = some qd := ⟨_, List.getElem?_eq_getElem hdl⟩
    have hqm : qd ∈ lns := List.mem_of_getElem? hqd
    have hql := S.m qd hqm
    obtain ⟨y0, hy0, rd⟩ := hcl.at (i := d) (d := dLine qd) (by rw [List.getElem?_map, hqd]; rfl)
    obtain ⟨ay, ys, rfl, hay, hyl⟩ := rd
    have yl : ys.length = qd.length := by rw [hyl.len, List.length_map]
    have hatl : atI xs (d : Int) = some (.ref ay) := atI_nat hy0
    have hatw : atI (ws.map V.int) (d : Int) = some (.int (ws.getD d 0)) := atI_nat (by rw [List.getElem?_map, List.getElem?_eq_getElem hdw, List.getD_eq_getElem?_getD, List.getElem?_eq_getElem hdw]; rfl)
    refine ⟨_, rfl, p, _, rfl, SqT.of hp, rfl, _, _, rfl, _, _, rfl, _, _, rfl, rfl, ?_⟩
    refine ⟨_, rfl, c, 2, 4, rfl, by decide, by decide, by decide, fun way y0 y1 => ?_⟩
    refine ⟨_, rfl, c, 3, 3, rfl, by decide, by decide, by decide, fun tt t0 t1 => ?_⟩
    have ht3 : tt = 0 ∨ tt = 1 ∨ tt = 2 := by omega
    have big : ∀ n : Nat, n ≤ 20000 → n ≤ sizeLine := fun n hn => Nat.le_trans hn (by rw [sizeLine_eq]; decide)
    -- a desk that is not there
    refine ⟨_, rfl, rfl, _, rfl, ite2 (fun _ => ?_) (fun _ => ?_)⟩
    · refine ⟨_, rfl, _, rfl, ah, _, rfl, .inl hah, _, rfl, ah, _, rfl, .inl hah, _, rfl, _, _, rfl, rfl, p9, c, 4, _, rfl, by decide, by decide, (by show (0 : Int) < (10 : Int) ^ (9 : Int).toNat; decide), fun dm e0 e1 => ⟨_, _, rfl, rfl, by show 3 ≤ sizeLine; decide, fun l hl => ?_⟩⟩
      obtain ⟨dk, hdk, hno⟩ : ∃ dk : Int, atI ([.int (-1), .int ((hs.map V.str).length : Int), .int (((hs.map V.str).length : Int) + dm)] : List V) tt = some (.int dk) ∧ numOk dk lns.length = false := by
        rcases ht3 with rfl | rfl | rfl
        · exact ⟨_, rfl, num_low (by decide)⟩
        · exact ⟨_, rfl, num_high (by rw [List.length_map]; omega)⟩
        · exact ⟨_, rfl, num_high (by rw [List.length_map]; omega)⟩
      refine ⟨_, rfl, l, _, tt, .int dk, rfl, rfl, SqL.of upd_same, hdk, _, rfl, by show 3 ≤ sizeLine; decide, fun pt hpt => ?_⟩
      have sl := (Same.upd (o := .lst [.int (-1), .int ((hs.map V.str).length : Int), .int (((hs.map V.str).length : Int) + dm)]) hl).trans (Same.upd (o := .tup [.int dk, .ref an, .int 1]) hpt)
      exact k pt an dk 1 ns _ sl upd_same (sl.seq hA) (by omega) (no_desk hno)
    -- a number that is not there
    refine ⟨_, rfl, rfl, _, rfl, ite2 (fun _ => ?_) (fun _ => ?_)⟩
    · refine ⟨_, rfl, _, rfl, _, rfl, al, xs, _, _, rfl, rfl, .inl hal, hatl, ay, ys, rfl, .inl (.inl hay), _, rfl, _, rfl, al, xs, _, _, rfl, rfl, .inl hal, hatl, ay, ys, rfl, .inl (.inl hay), _, rfl, _, _, rfl, rfl, p9, c, 4, _, rfl, by decide, by decide, (by show (0 : Int) < (10 : Int) ^ (9 : Int).toNat; decide), fun dm e0 e1 => ⟨_, _, rfl, rfl, by show 3 ≤ sizeLine; decide, fun l hl => ?_⟩⟩
      obtain ⟨mo, hmo, hno⟩ : ∃ mo : Int, atI ([.int (-1), .int (ys.length : Int), .int ((ys.length : Int) + dm)] : List V) tt = some (.int mo) ∧ numOk mo qd.length = false := by
        rcases ht3 with rfl | rfl | rfl
        · exact ⟨_, rfl, num_low (by decide)⟩
        · exact ⟨_, rfl, num_high (by omega)⟩
        · exact ⟨_, rfl, num_high (by omega)⟩
      refine ⟨_, rfl, l, _, tt, .int mo, rfl, rfl, SqL.of upd_same, hmo, ?_⟩
      obtain ⟨ta, rfl, ta2⟩ : ∃ ta : Nat, tt = (ta : Int) ∧ ta ≤ 2 := ⟨tt.toNat, by omega, by omega⟩
      have s1 : Same H (upd H l (.lst [.int (-1), .int (ys.length : Int), .int ((ys.length : Int) + dm)])) := Same.upd hl
      refine ⟨_, rfl, _, rfl, _, rfl, _, rfl, an, _, rfl, s1.seq hA, fun l6 hl6 => ?_⟩
      rw [cut_to (ns.map V.int) ta (by rw [List.length_map]; omega), ← List.map_take]
      have s2 := s1.trans (Same.upd (o := .lst ((ns.take ta).map V.int)) hl6)
      refine ⟨_, rfl, by show 1 ≤ sizeLine; decide, fun l7 hl7 => ?_⟩
      have s3 := s2.trans (Same.upd (o := .lst [.int mo]) hl7)
      refine ⟨l6, l7, _, [.int mo], rfl, rfl, Same.upd hl7 _ _ upd_same, upd_same, big _ (by rw [List.length_map, List.length_take]; show min ta ns.length + 1 ≤ _; omega), fun l8 hl8 => ?_⟩
      have s4 := s3.trans (Same.upd (o := .lst ((ns.take ta).map V.int ++ [.int mo])) hl8)
      refine ⟨_, rfl, _, rfl, _, rfl, an, _, rfl, s4.seq hA, fun l9 hl9 => ?_⟩
      rw [cut_from, ← List.map_drop]
      have s5 := s4.trans (Same.upd (o := .lst ((ns.drop ta).map V.int)) hl9)
      refine ⟨l8, l9, _, _, rfl, rfl, Same.upd hl9 _ _ upd_same, upd_same, big _ (by rw [List.length_append, List.length_map, List.length_map, List.length_take, List.length_drop]; show min ta ns.length + 1 + (ns.length - ta) ≤ _; omega), fun l10 hl10 => ?_⟩
      have ec : (ns.take ta).map V.int ++ [V.int mo] ++ (ns.drop ta).map V.int = (ns.take ta ++ [mo] ++ ns.drop ta).map V.int := by rw [List.map_append, List.map_append]; rfl
      rw [ec]
      have s6 := s5.trans (Same.upd (o := .lst ((ns.take ta ++ [mo] ++ ns.drop ta).map V.int)) hl10)
      refine ⟨by show 3 ≤ sizeLine; decide, fun pt hpt => ?_⟩
      have s7 := s6.trans (Same.upd (o := .tup [.int (d : Int), .ref l10, .int 1]) hpt)
      refine k pt l10 (d : Int) 1 (ns.take ta ++ [mo] ++ ns.drop ta) _ s7 upd_same (SqL.of (Same.upd hpt _ _ upd_same)) (by rw [List.length_append, List.length_append, List.length_take, List.length_drop]; show min ta ns.length + 1 + (ns.length - ta) ≤ _; omega) (no_num hqd (List.mem_append_left _ (List.mem_append_right _ (List.mem_singleton.mpr rfl))) hno)
    -- no steps, or all
    refine ⟨_, rfl, rfl, _, rfl, ite2 (fun _ => ?_) (fun _ => ?_)⟩
    · refine ⟨_, rfl, Nat.zero_le _, fun l1 hl1 => ?_⟩
      have s1 : Same H (upd H l1 (.lst [])) := Same.upd hl1
      refine ⟨_, rfl, _, rfl, al, xs, _, _, rfl, rfl, s1.seq (.inl hal), hatl, ay, ys, rfl, .inl (s1.seq (.inl hay)), _, rfl, fun pr hpr => ⟨pr, ys.length, rfl, upd_same, big _ (by omega), fun lr hlr => ?_⟩⟩
      have er : (List.range ys.length).map (fun i => V.int ((i : Nat) : Int)) = (rngI ys.length).map V.int := by
        unfold rngI
        rw [List.map_map]
        rfl
      rw [er]
      have s2 := (s1.trans (Same.upd (o := .rng 0 (ys.length : Int)) hpr)).trans (Same.upd (o := .lst ((rngI ys.length).map V.int)) hlr)
      refine ⟨Nat.zero_le _, fun l3 hl3 => ⟨by show 3 ≤ sizeLine; decide, fun l hl => ?_⟩⟩
      have s3 := (Same.upd (o := .lst []) hl3).trans (Same.upd (o := .lst [.ref l1, .ref lr, .ref l3]) hl)
      have h1 := ((Same.upd (o := .rng 0 (ys.length : Int)) hpr).trans ((Same.upd (o := .lst ((rngI ys.length).map V.int)) hlr).trans s3)) _ _ (upd_same (H := H) (a := l1) (o := .lst []))
      have hr := s3 _ _ upd_same
      have h3 := Same.upd (o := .lst [.ref l1, .ref lr, .ref l3]) hl _ _ (upd_same (a := l3) (o := .lst []))
      have s4 := s2.trans s3
      have hl' := upd_same (H := upd (upd (upd (upd H l1 (.lst [])) pr (.rng 0 (ys.length : Int))) lr (.lst ((rngI ys.length).map V.int))) l3 (.lst [])) (a := l) (o := .lst [.ref l1, .ref lr, .ref l3])
      generalize upd (upd (upd (upd (upd H l1 (.lst [])) pr (.rng 0 (ys.length : Int))) lr (.lst ((rngI ys.length).map V.int))) l3 (.lst [])) l (.lst [.ref l1, .ref lr, .ref l3]) = H5 at h1 hr h3 s4 hl'
      have ch0 : chosenOf ([] : List Int) qd = [] := pickF_none 0 qd fun i _ _ => decide_eq_false (fun h => nomatch h)
      have ot0 : othersOf (rngI ys.length) qd = [] := pickF_none 0 qd fun i _ h2 => by
        rw [decide_eq_true (rngI_mem.mpr ⟨by omega, by omega⟩)]
        rfl
      obtain ⟨lx, nx, hat, hlx, hxl, hno⟩ : ∃ (lx : Addr) (nx : List Int), atI ([.ref l1, .ref lr, .ref l3] : List V) tt = some (.ref lx) ∧ H5 lx = some (.lst (nx.map V.int)) ∧ nx.length ≤ 100 ∧ splitOk ws lns (m : Int) (d : Int) nx 1 = false := by
        rcases ht3 with rfl | rfl | rfl
        · exact ⟨l1, [], rfl, h1, Nat.zero_le _, no_some hqd (by rw [ch0]; rfl)⟩
        · exact ⟨lr, rngI ys.length, rfl, hr, by unfold rngI; rw [List.length_map, List.length_range]; omega, no_rest hqd (by rw [ot0]; rfl)⟩
        · exact ⟨l3, [], rfl, h3, Nat.zero_le _, no_some hqd (by rw [ch0]; rfl)⟩
      refine ⟨_, rfl, l, _, tt, .ref lx, rfl, rfl, SqL.of hl', hat, by show 3 ≤ sizeLine; decide, fun pt hpt => ?_⟩
      exact k pt lx (d : Int) 1 nx _ (s4.trans (Same.upd hpt)) upd_same (SqL.of (Same.upd hpt _ _ hlx)) hxl hno
    -- no weight
    refine ⟨_, rfl, _, rfl, _, rfl, _, rfl, _, rfl, aw, _, _, _, rfl, rfl, haw, hatw, by show 3 ≤ sizeLine; decide, fun l hl => ?_⟩
    have s1 : Same H (upd H l (.lst [.int 0, .int (-1), .int (ws.getD d 0)])) := Same.upd hl
    obtain ⟨wv, hwv⟩ : ∃ wv : Int, atI ([.int 0, .int (-1), .int (ws.getD d 0)] : List V) tt = some (.int wv) := by
      rcases ht3 with rfl | rfl | rfl
      · exact ⟨_, rfl⟩
      · exact ⟨_, rfl⟩
      · exact ⟨_, rfl⟩
    refine ⟨_, rfl, l, _, tt, .int wv, rfl, rfl, SqL.of upd_same, hwv, _, rfl, c, 4, 3, rfl, by decide, by decide, by decide, fun dm e0 e1 => ⟨_, rfl, rfl, .inr ⟨_, rfl, _, _, rfl, rfl, .inl ⟨by omega, by omega⟩, _, _, rfl, rfl, by show 3 ≤ sizeLine; decide, fun pt hpt => ?_⟩⟩⟩
    refine k pt an (d : Int) (wv + dm * (if decide (V.int tt = V.int 2) = true then 1 else 0)) ns _ (s1.trans (Same.upd hpt)) upd_same ((s1.trans (Same.upd hpt)).seq hA) (by omega) ?_
    rcases ht3 with rfl | rfl | rfl
    · cases hwv
      exact no_some hqd (part_low (by rw [if_neg (by decide)]; omega))
    · cases hwv
      exact no_some hqd (part_low (by rw [if_neg (by decide)]; omega))
    · cases hwv
      exact no_rest hqd (part_low (by rw [if_pos (by decide)]; omega))
end
end K32

set_option Elab.async false
set_option linter.all false
set_option maxRecDepth 100000
set_option maxHeartbeats 4000000
namespace K32
open PySem L2 Bs Sx
section
variable {P : Program} {w : World} {K : PySem.W.Frag} {mg : Str → Option Value} {base : Heap}
theorem good_eq {ws : List Int} {lns : List (List (Str × Nat))} {d : Nat} {qd : List (Str × Nat)} {ns : List Int} {many w : Int} (hd : lns[d]? = some qd) (hns : ∀ i ∈ ns, 0 ≤ i ∧ i < (qd.length : Int)) :
    splitOk ws lns many (d : Int) ns w = ((!(chosenOf ns qd).isEmpty && (!(othersOf ns qd).isEmpty && (decide (0 < w) && decide (0 < ws.getD d 0 - w)))) && (decide (many * w ≤ stepSum ws (chosenOf ns qd)) && decide (many * (ws.getD d 0 - w) ≤ stepSum ws (othersOf ns qd)))) := by
  have hdl : d < lns.length := (List.getElem?_eq_some_iff.mp hd).1
  unfold splitOk
  have h1 : numOk (d : Int) lns.length = true := by
    unfold numOk
    rw [decide_eq_true (show 0 ≤ (d : Int) by omega), decide_eq_true (show (d : Int) < lns.length by omega)]
    rfl
  have hgd : lns.getD ((d : Int)).toNat [] = qd := by rw [Int.toNat_natCast, List.getD_eq_getElem?_getD, hd]; rfl
  have h2 : ns.all (fun i => numOk i qd.length) = true := List.all_eq_true.mpr fun i hi => by
    have := hns i hi
    unfold numOk
    rw [decide_eq_true this.1, decide_eq_true this.2]
    rfl
  rw [h1, hgd, h2, Int.toNat_natCast, Bool.true_and, Bool.true_and]
  unfold partOk
  have e1 : decide (1 ≤ w) = decide (0 < w) := rfl
  have e2 : decide (1 ≤ ws.getD d 0 - w) = decide (0 < ws.getD d 0 - w) := rfl
  rw [e1, e2]
  cases (chosenOf ns qd).isEmpty <;> cases (othersOf ns qd).isEmpty <;> cases decide (0 < w) <;> cases decide (0 < ws.getD d 0 - w) <;> cases decide (many * w ≤ stepSum ws (chosenOf ns qd)) <;> cases decide (many * (ws.getD d 0 - w) ≤ stepSum ws (othersOf ns qd)) <;> rfl
theorem pick_both {α : Type} (p : Nat → Bool) : ∀ (k : Nat) (xs : List α), (pickF p k xs).length + (pickF (fun i => !p i) k xs).length = xs.length
  | _, [] => rfl
  | k, x :: xs => by
    have := pick_both p (k + 1) xs
    show (if p k then x :: pickF p (k + 1) xs else pickF p (k + 1) xs).length + (if !p k then x :: pickF (fun i => !p i) (k + 1) xs else pickF (fun i => !p i) (k + 1) xs).length = xs.length + 1
    cases p k with
    | true => show (pickF p (k + 1) xs).length + 1 + (pickF (fun i => !p i) (k + 1) xs).length = _; omega
    | false => show (pickF p (k + 1) xs).length + ((pickF (fun i => !p i) (k + 1) xs).length + 1) = _; omega
theorem pick_count {α : Type} (p : Nat → Bool) (xs : List α) : (pickF p 0 xs).length = ((List.range xs.length).filter p).length := by
  have key : ∀ m, m ≤ xs.length → (pickF p 0 (xs.take m)).length = ((List.range m).filter p).length := by
    intro m
    induction m with
    | zero => intro _; rfl
    | succ m ih =>
      intro hm
      have hx : xs[m]? = some xs[m] := List.getElem?_eq_getElem (by omega)
      have tk : xs.take (m + 1) = xs.take m ++ [xs[m]] := by rw [List.take_add_one, hx]; rfl
      have hln : (xs.take m).length = m := by rw [List.length_take]; omega
      rw [List.range_succ, List.filter_append, List.length_append, tk, pickF_snoc, hln, Nat.zero_add, List.length_append, ih (by omega), List.filter_cons]
      cases p m <;> rfl
  have := key xs.length (Nat.le_refl _)
  rwa [List.take_length] at this
theorem chosen_len {α : Type} {ns : List Int} {xs : List α} (hnd : ns.Nodup) (hr : ∀ i ∈ ns, 0 ≤ i ∧ i < (xs.length : Int)) : (chosenOf ns xs).length = ns.length := by
  unfold chosenOf
  rw [pick_count]
  have hp : (((List.range xs.length).filter fun i : Nat => decide ((i : Int) ∈ ns)).map fun i : Nat => (i : Int)).Perm ns := by
    refine (List.perm_ext_iff_of_nodup ?_ hnd).mpr fun i => ?_
    · exact List.Pairwise.map (S := fun a b : Int => a ≠ b) (fun i : Nat => (i : Int)) (fun a b h e => h (by have e' : (a : Int) = (b : Int) := e; omega)) (List.nodup_range.filter _)
    · rw [List.mem_map]
      constructor
      · rintro ⟨j, hj, rfl⟩
        exact of_decide_eq_true (List.mem_filter.mp hj).2
      · intro hi
        have := hr i hi
        refine ⟨i.toNat, List.mem_filter.mpr ⟨List.mem_range.mpr (by omega), decide_eq_true ?_⟩, by omega⟩
        rw [show ((i.toNat : Nat) : Int) = i by omega]
        exact hi
  have := hp.length_eq
  rwa [List.length_map] at this
theorem sum_low {ws : List Int} (hw : ∀ w ∈ ws, 2 ≤ w) : ∀ qs : List (Str × Nat), (∀ q ∈ qs, q.2 < ws.length) → 2 * (qs.length : Int) ≤ stepSum ws qs
  | [], _ => Int.le_refl _
  | q :: qs, h => by
    have ih := sum_low hw qs fun q hq => h q (List.mem_cons_of_mem _ hq)
    have hq := h q (List.mem_cons_self ..)
    have h2 : 2 ≤ ws.getD q.2 0 := by
      rw [List.getD_eq_getElem?_getD, List.getElem?_eq_getElem hq]
      exact hw _ (List.getElem_mem hq)
    have e : stepSum ws (q :: qs) = ws.getD q.2 0 + stepSum ws qs := rfl
    rw [e, List.length_cons]
    omega
theorem good32 {m : Nat} {hs : List Str} {ws : List Int} {lns : List (List (Str × Nat))} (S : S32 m hs ws lns) (m2 : 2 ≤ m) {d : Nat} (hd : d < hs.length) {ns : List Int} (hnl : ns.length = m) (hnd : ns.Nodup) (hr : ∀ i ∈ ns, 0 ≤ i ∧ i < ((2 * m : Nat) : Int)) : splitOk ws lns (m : Int) (d : Int) ns 1 = true := by
  have hwl := S.w
  have hll := S.l
  obtain ⟨qd, hqd⟩ : ∃ qd, lns[d]? = some qd := ⟨_, List.getElem?_eq_getElem (show d < lns.length by omega)⟩
  have hqm : qd ∈ lns := List.mem_of_getElem? hqd
  have hql := S.m qd hqm
  have hr' : ∀ i ∈ ns, 0 ≤ i ∧ i < (qd.length : Int) := fun i hi => by rw [hql]; exact hr i hi
  have c1 : (chosenOf ns qd).length = m := (chosen_len hnd hr').trans hnl
  have c2 : (othersOf ns qd).length = m := by
    have := pick_both (fun i => decide ((i : Int) ∈ ns)) 0 qd
    have e1 : (pickF (fun i => decide ((i : Int) ∈ ns)) 0 qd).length = m := c1
    show (pickF (fun i => !decide ((i : Int) ∈ ns)) 0 qd).length = m
    omega
  have hw2 : ∀ w ∈ ws, 2 ≤ w := fun w hw => (S.p w hw).1
  have hdw : d < ws.length := by omega
  have hwd : ws.getD d 0 = ws[d] := by rw [List.getD_eq_getElem?_getD, List.getElem?_eq_getElem hdw]; rfl
  have hb := S.p ws[d] (List.getElem_mem hdw)
  have l1 := sum_low hw2 (chosenOf ns qd) fun q hq => by rw [hwl]; exact S.e qd hqm q (pickF_mem hq)
  have l2 := sum_low hw2 (othersOf ns qd) fun q hq => by rw [hwl]; exact S.e qd hqm q (pickF_mem hq)
  rw [c1] at l1
  rw [c2] at l2
  have n1 : (chosenOf ns qd).isEmpty = false := by cases e : chosenOf ns qd with | nil => rw [e] at c1; simp at c1; omega | cons _ _ => rfl
  have n2 : (othersOf ns qd).isEmpty = false := by cases e : othersOf ns qd with | nil => rw [e] at c2; simp at c2; omega | cons _ _ => rfl
  rw [good_eq hqd hr', n1, n2, hwd, decide_eq_true (show (0 : Int) < 1 by decide), decide_eq_true (show 0 < ws[d] - 1 by omega), decide_eq_true (show (m : Int) * 1 ≤ stepSum ws (chosenOf ns qd) by omega), decide_eq_true (show (m : Int) * (ws[d] - 1) ≤ stepSum ws (othersOf ns qd) by
    have h3 : ws[d] - 1 ≤ 2 := by omega
    have h4 : (m : Int) * (ws[d] - 1) ≤ (m : Int) * 2 := Int.mul_le_mul_of_nonneg_left h3 (by omega)
    omega)]
  rfl
theorem S32.whole {m : Nat} {hs : List Str} {ws : List Int} {lns : List (List (Str × Nat))} (S : S32 m hs ws lns) (m8 : m ≤ 8) : Whole hs ws lns := ⟨S.w, S.l, S.e, by have := S.n; omega, fun l hl => by have := S.m l hl; omega⟩
theorem sc_law : FnScope ["_law_script", "_law_many", "_law_here", "_law_homes", "_law_weights", "_law_lines", "_law_handed", "_law_cell", "_law_desk", "_law_numbers", "_law_bad", "_law_listed", "_law_due"] ["_law_script"] (defScope (top 36)) := ⟨rfl, rfl, rfl, by decide +kernel, rfl, by decide +kernel, by decide +kernel⟩
theorem ok_law {f : Addr} {fd : FuncData} (L : Lk K mg) (F : Fun K "law" "law" (top 36) f fd) : FnOk P w K mg base CX0 6 f fd ["_law_script"] (spLaw K) := by
  have T := L.T
  refine F.ok sc_law (fun vs H Q E h => ?_) (fun cdv A outer s H vs Q E hr h => ?_)
  · obtain ⟨a, ns, rfl, _⟩ := h
    rfl
  · obtain ⟨a, nz, rfl, hS, hlen, k⟩ := h
    have hu0 : (A.deeper (PyProof.Rows.envOfC "law" (defScope (top 36)) s.heap.objs.size f cdv)).units < cLine := hr.units0
    refine ⟨_, (pss_cons (ps_set (i := 1) sc_law.nd rfl (Or.inl rfl) (pe_op op_add pe_int (pe_op op_mod (pe_call (ok__law_nth L) (hr.mono (by decide)) rfl L.a__law_nth.g L.a__law_nth.F.kp L.a__law_nth.b .nil pass0 (pa_cons (pv 0) (pa_cons pe_int pa_nil))) pe_int)))
        (pss_cons (ps_set (i := 2) sc_law.nd rfl (Or.inl rfl) (pe_call (ok__law_sheet L) (hr.mono (by decide)) rfl L.a__law_sheet.g L.a__law_sheet.F.kp L.a__law_sheet.b .nil pass0 (pa_cons (pe_call (ok__law_nth L) (hr.mono (by decide)) rfl L.a__law_nth.g L.a__law_nth.F.kp L.a__law_nth.b .nil pass0 (pa_cons (pv 0) (pa_cons pe_int pa_nil))) (pa_cons (pv 1) pa_nil))))
        (pss_cons (ps_asg (pv 2) (pg_tup rfl (pgs_cons (pg_name (i := 3) sc_law.nd rfl (Or.inl rfl)) (pgs_cons (pg_name (i := 4) sc_law.nd rfl (Or.inl rfl)) (pgs_cons (pg_name (i := 5) sc_law.nd rfl (Or.inl rfl)) pgs_nil)))))
        (pss_cons (ps_set (i := 6) sc_law.nd rfl (Or.inl rfl) (pe_make L.mk_Sheet (ok_Sheet___init__ L) (hr.mono (by decide)) rfl L.g_Sheet L.m_Sheet___init__.b .nil pass0 (pa_cons (pe_callTy call_list_of (by rfl) T.list bList (pa_cons (pv 3) pa_nil)) (pa_cons (pe_callTy call_list_of (by rfl) T.list bList (pa_cons (pv 4) pa_nil)) (pa_cons (pe_comp rfl (blockOk_of (sc := defScope (top 36)) (N := ["_law_script", "_law_many", "_law_here", "_law_homes", "_law_weights", "_law_lines", "_law_handed", "_law_cell", "_law_desk", "_law_numbers", "_law_bad", "_law_listed", "_law_due"]) (ys := []) (ix := []) rfl rfl (by decide +kernel)) (pi_list (pv 5)) (fun _ _ _ _ _ _ => pts_nil) (fun _ _ _ _ _ _ => (pe_callTy (call_list_ofK (K := K) rfl) (by rfl) T.list bList (pa_cons (pv 0) pa_nil)))) pa_nil)))))
        (pss_cons (ps_for PassesOwn.never rfl (pi_list (pe_op op_cat (pe_lst (pa_cons (pe_call (ok__law_nth L) (hr.mono (by decide)) rfl L.a__law_nth.g L.a__law_nth.F.kp L.a__law_nth.b .nil pass0 (pa_cons (pv 0) (pa_cons pe_int pa_nil))) pa_nil)) (pe_slice sl_list (pv 0) (po_some pe_int) (po_some pe_int)))) (pg_name (i := 7) sc_law.nd rfl (Or.inl rfl)) (pss_cons (ps_set (i := 8) sc_law.nd rfl (Or.inl rfl) (pe_call (ok__law_mixed L) (hr.mono (by decide)) rfl L.a__law_mixed.g L.a__law_mixed.F.kp L.a__law_mixed.b .nil pass0 (pa_cons (pv 7) (pa_cons pe_int (pa_cons (pe_callB call_len_seq (by rfl) T.len PySem.boot_len (pa_cons (pv 3) pa_nil)) pa_nil)))))
        (pss_cons (ps_set (i := 9) sc_law.nd rfl (Or.inl rfl) (pe_call (ok__law_half L) (hr.mono (by decide)) rfl L.a__law_half.g L.a__law_half.F.kp L.a__law_half.b .nil pass0 (pa_cons (pv 7) (pa_cons (pv 1) pa_nil))))
        (pss_cons (ps_set (i := 10) sc_law.nd rfl (Or.inl rfl) (pe_call (ok__law_turned L) (hr.mono (by decide)) rfl L.a__law_turned.g L.a__law_turned.F.kp L.a__law_turned.b .nil pass0 (pa_cons (pv 7) (pa_cons (pv 2) (pa_cons (pv 8) (pa_cons (pv 9) pa_nil))))))
        (pss_cons (ps_set (i := 11) sc_law.nd rfl (Or.inl rfl) (pe_callTy call_list_of (by rfl) T.list bList (pa_cons (pe_ix ix_tup (pv 10) pe_int (fun _ _ => rfl)) pa_nil)))
        (pss_cons (ps_if (PW.pt (pw_or (pt_not (pt_val (pe_call (ok__law_is_refused L) (hr.mono (by decide)) rfl L.a__law_is_refused.g L.a__law_is_refused.F.kp L.a__law_is_refused.b .nil pass0 (pa_cons (pv 6) (pa_cons (pv 1) (pa_cons (pe_ix ix_tup (pv 10) pe_int (fun _ _ => rfl)) (pa_cons (pv 11) (pa_cons (pe_ix ix_tup (pv 10) pe_int (fun _ _ => rfl)) pa_nil)))))))) (pw_or1 (pt_cmpR (op_neL hu0) (pv 11) (pe_ix ix_tup (pv 10) pe_int (fun _ _ => rfl)) (nomark _))))) (pss_one (ps_ret pe_bl)) pss_nil)
        (pss_cons (ps_if (pt_not (pt_val (pe_call (ok__law_is_sheet L) (hr.mono (by decide)) rfl L.a__law_is_sheet.g L.a__law_is_sheet.F.kp L.a__law_is_sheet.b .nil pass0 (pa_cons (pv 6) (pa_cons (pv 2) pa_nil))))) (pss_one (ps_ret pe_bl)) pss_nil)
        (pss_cons (ps_set (i := 12) sc_law.nd rfl (Or.inl rfl) (pe_call (ok__law_divided L) (hr.mono (by decide)) rfl L.a__law_divided.g L.a__law_divided.F.kp L.a__law_divided.b .nil pass0 (pa_cons (pv 3) (pa_cons (pv 4) (pa_cons (pv 5) (pa_cons (pv 8) (pa_cons (pv 9) (pa_cons pe_int pa_nil))))))))
        (pss_one (ps_if (pt_not (pt_val (pe_call (ok__law_is_sheet L) (hr.mono (by decide)) rfl L.a__law_is_sheet.g L.a__law_is_sheet.F.kp L.a__law_is_sheet.b .nil pass0 (pa_cons (pe_call (ok_split L) (hr.mono (by decide)) rfl L.a_split.g L.a_split.F.kp L.a_split.b .nil passE0 (pa_cons (pv 6) (pa_cons (pv 1) (pa_cons (pv 8) (pa_cons (pv 9) (pa_cons pe_int pa_nil)))))) (pa_cons (pv 12) pa_nil))))) (pss_one (ps_ret pe_bl)) pss_nil))))))))))
        (pss_one (ps_ret pe_bl))))))), ?_⟩
    refine ⟨_, rfl, a, nz, 1, rfl, hS, fun c2 H0 s0 => ⟨_, _, rfl, rfl, (by show (0 : Int) < 7; decide), _, _, rfl, rfl, ?_⟩⟩
    obtain ⟨m, em, m2, m8⟩ : ∃ m : Nat, 2 + c2 % 7 = (m : Int) ∧ 2 ≤ m ∧ m ≤ 8 := ⟨(2 + c2 % 7).toNat, by have := Int.emod_nonneg c2 (show (7 : Int) ≠ 0 by decide); omega, by have := Int.emod_nonneg c2 (show (7 : Int) ≠ 0 by decide); omega, by have := Int.emod_lt_of_pos c2 (show (0 : Int) < 7 by decide); omega⟩
    show gName 1 (V.int (2 + c2 % 7)) _ _ _
    rw [em]
    refine ⟨_, rfl, a, nz, 0, rfl, s0.seq hS, fun c0 H1 s1 => ⟨_, rfl, c0, m, rfl, m2, m8, fun p hs ws lns H2 s2 rP S => ?_⟩⟩
    have s02 := (s0.trans s1).trans s2
    obtain ⟨_, ts, e0, hp, rT⟩ := id rP
    cases e0
    obtain ⟨u1, t1, rfl, rh, u2, t2, rfl, rw', u3, t3, rfl, rl, et⟩ := rT
    cases (show t3 = [] from et)
    obtain ⟨ah, rfl, hah⟩ := rds_strs rh
    obtain ⟨aw, rfl, haw⟩ := rds_ints rw'
    obtain ⟨al, xs, rfl, hal, hcl⟩ := id rl
    have W := S.whole m8
    have hwl := S.w
    have hll := S.l
    have ho := S.o
    have xl : xs.length = lns.length := by rw [hcl.len, List.length_map]
    have nH : hs.length ≤ 10000 := by have := W.n; omega
    have nW : ws.length ≤ 10000 := by have := W.n; omega
    have nL : lns.length ≤ 10000 := by have := W.n; omega
    refine ⟨_, rfl, p, _, rfl, SqT.of hp, rfl, _, _, rfl, _, _, rfl, _, _, rfl, rfl, ?_⟩
    -- handed
    refine ⟨_, rfl, ah, _, rfl, .inl hah, fun g0 hg0 => ⟨_, rfl, aw, _, rfl, .inl ((Same.upd hg0).seq haw), fun g1 hg1 => ?_⟩⟩
    have sg : Same H2 (upd (upd H2 g0 (.lst (hs.map V.str))) g1 (.lst (ws.map V.int))) := (Same.upd hg0).trans (Same.upd hg1)
    have hq0 : (upd (upd H2 g0 (.lst (hs.map V.str))) g1 (.lst (ws.map V.int))) g0 = some (.lst (hs.map V.str)) := Same.upd hg1 _ _ upd_same
    have hq1 : (upd (upd H2 g0 (.lst (hs.map V.str))) g1 (.lst (ws.map V.int))) g1 = some (.lst (ws.map V.int)) := upd_same
    generalize upd (upd H2 g0 (.lst (hs.map V.str))) g1 (.lst (ws.map V.int)) = He at sg hq0 hq1
    refine ⟨_, rfl, al, rfl, ⟨_, sg.seq (.inl hal)⟩, fun g2 hg2 => ?_⟩
    refine comp_off (K := K) (lns.map dLine) (itIs_list K al xs) hg2 (Nat.le_trans (show xs.length ≤ 1000 by have := W.n; omega) (by rw [sizeLine_eq]; decide)) (by rw [List.length_map, xl]) (fun Hx s' => (sg.trans s').seq (.inl hal)) (fun j x dd Hx zs Q' hx hdd s' h' qq => ?_) (fun zs Hf sf hf hz => ?_)
    · obtain ⟨d', e', r⟩ := hcl.get j x hx
      rw [hdd] at e'
      cases e'
      rw [List.getElem?_map] at hdd
      cases e : lns[j]? with
      | none => rw [e] at hdd; cases hdd
      | some ql =>
        rw [e] at hdd
        cases hdd
        obtain ⟨ax, ys, rfl, hax, hyl⟩ := r
        refine ⟨_, rfl, ax, ys, rfl, .inl ((sg.trans s').seq (.inl hax)), fun a' ha' => ?_⟩
        have na : a' ≠ g2 := fun z => by rw [z, h'] at ha'; cases ha'
        have so : Same H2 (offH (upd Hx a' (.lst ys)) g2) := fun b o e => off_at (Same.upd ha' _ _ (s' _ _ (sg _ _ e))) (ne_of_none (sg _ _ e) hg2)
        exact qq _ _ (Same.upd ha') ⟨a', ys, rfl, .inl (off_at upd_same na), RdsL.same so _ _ hyl⟩
    intro y dy ny ndy ney
    have sm : Same Hf (upd (upd Hf dy (.own y)) y (.ins L.c_Sheet dy [])) := made_same ny ndy
    have rL : Rds K Hf (dLines lns) (.ref g2) := ⟨g2, zs, rfl, .inl hf, RdsL.same (off_sub fun b o e _ => e) _ _ hz⟩
    refine ⟨y, dy, .ref g0, .ref g1, .ref g2, hs, ws, lns, rfl, upd_same, strs_rds (sm _ _ (sf _ _ hq0)), ints_rds (sm _ _ (sf _ _ hq1)), Rds.same sm _ _ rL, nH, nW, nL, fun l hl => by have := W.m l hl; omega, fun a' b' c' Hh hyh q1 q2 q3 kph => ⟨rfl, ?_⟩⟩
    have sfh : Same Hf Hh := fun c o e => kph _ _ (sm _ _ e) (ne_of_none e ny)
    have Sy : SheetAt K L.c_Sheet Hh y hs ws lns := ⟨dy, a', b', c', hyh, Rds.same (newIn_sub _ _) _ _ q1, Rds.same (newIn_sub _ _) _ _ q2, Rds.same (newIn_sub _ _) _ _ q3⟩
    have s2h := sg.trans (sf.trans sfh)
    have s0h := s02.trans s2h
    clear q1 q2 q3 kph hyh rL hz hf hq0 hq1
    -- the cells
    refine ⟨_, rfl, a, nz, 2, rfl, s0h.seq hS, fun c5 H9 s9 => ⟨by show 1 ≤ sizeLine; decide, fun lh hlh => ?_⟩⟩
    have s9h := s9.trans (Same.upd (o := .lst [.int c5]) hlh)
    refine ⟨_, rfl, _, rfl, _, rfl, a, _, rfl, (s0h.trans s9h).seq hS, fun lu hlu => ?_⟩
    obtain ⟨ms, emm, hml⟩ := cut_ints nz (some 3) (some 18)
    rw [emm]
    refine ⟨lh, lu, _, _, rfl, rfl, Same.upd hlu _ _ upd_same, upd_same, by rw [List.length_map]; exact small16 (by show 1 + ms.length ≤ _; omega), fun lx hlx => ?_⟩
    have ecat : [V.int c5] ++ ms.map V.int = (c5 :: ms).map V.int := rfl
    rw [ecat]
    have s10 := s9h.trans ((Same.upd (o := .lst (ms.map V.int)) hlu).trans (Same.upd (o := .lst ((c5 :: ms).map V.int)) hlx))
    have h10x : (upd (upd (upd H9 lh (.lst [.int c5])) lu (.lst (ms.map V.int))) lx (.lst ((c5 :: ms).map V.int))) lx = some (.lst ((c5 :: ms).map V.int)) := upd_same
    generalize upd (upd (upd H9 lh (.lst [.int c5])) lu (.lst (ms.map V.int))) lx (.lst ((c5 :: ms).map V.int)) = H10 at s10 h10x
    clear hlx hlu hlh s9h s9
    have sh10 : Same Hh H10 := s10
    refine ⟨lx, rfl, ⟨_, SqL.of h10x⟩, for_list (K := K) (a := lx) (xs := (c5 :: ms).map V.int) (fun i σ H11 => Same H10 H11 ∧ ∃ (v7 v8 v9 v10 v11 v12 : Option V), σ = [some (.ref a), some (.int (m : Int)), some (.ref p), some (.ref ah), some (.ref aw), some (.ref al), some (.ref y), v7, v8, v9, v10, v11, v12])
      ⟨Same.refl _, none, none, none, none, none, none, rfl⟩ (fun i σ H11 _ q => SqL.of (q.1 _ _ h10x)) ?_ ?_⟩
    · rintro i yv σ H11 hy ⟨s11, v7, v8, v9, v10, v11, v12, rfl⟩
      obtain ⟨cc, _, rfl⟩ := List.mem_map.mp (List.mem_of_getElem? hy)
      have sh := sh10.trans s11
      have s2x := s2h.trans sh
      refine ⟨_, rfl, _, rfl, ah, _, rfl, .inl (s2x.seq hah), cc, 1, _, rfl, by decide, by decide, by rw [List.length_map]; omega, fun dd q0 q1 => ?_⟩
      rw [List.length_map] at q1
      obtain ⟨d, rfl⟩ : ∃ d : Nat, dd = (d : Int) := ⟨dd.toNat, by omega⟩
      have hd : d < hs.length := by omega
      refine ⟨_, rfl, _, rfl, cc, m, rfl, m2, m8, fun an ns Ha sa han hnl hnd hnr => ?_⟩
      have s2a := s2x.trans sa
      refine ⟨_, rfl, _, rfl, _, rfl, _, rfl, cc, p, an, d, m, hs, ws, ns, lns, rfl, Rds.same s2a _ _ rP, S, hd, SqL.of han, hnl, m2, m8, fun pt a' desk' w' ns' Hb sb hpt ha' hl' hno => ?_⟩
      refine ⟨_, rfl, pt, _, _, _, rfl, rfl, SqT.of hpt, rfl, a', _, rfl, .inl ha', fun li hli => ?_⟩
      have sl : Same Hb (upd Hb li (.lst (ns'.map V.int))) := Same.upd hli
      have hli' : (upd Hb li (.lst (ns'.map V.int))) li = some (.lst (ns'.map V.int)) := upd_same
      generalize upd Hb li (.lst (ns'.map V.int)) = Hl at sl hli'
      have shl := ((sh.trans sa).trans sb).trans sl
      refine ⟨_, rfl, _, rfl, _, rfl, pt, _, _, _, rfl, rfl, SqT.of (sl _ _ hpt), rfl, _, rfl, _, rfl, pt, _, _, _, rfl, rfl, SqT.of (sl _ _ hpt), rfl, y, li, (m : Int), desk', w', ns', hs, ws, lns, rfl, Sy.same shl, SqL.of hli', by omega, W, by omega, by omega, hno, fun Hc sc => ⟨true, rfl, iteF ?_⟩⟩
      refine ⟨_, rfl, _, rfl, pt, _, _, _, rfl, rfl, SqT.of ((sl.trans sc) _ _ hpt), rfl, li, a', _, _, rfl, rfl, SqL.of (sc _ _ hli'), (sl.trans sc).seq ha', flat_ints ns', flat_ints ns', false, by rw [eqI ns']; rfl, iteF ?_⟩
      have shc := shl.trans sc
      have s2c := s2h.trans shc
      refine ⟨_, rfl, _, rfl, y, .ref p, hs, ws, lns, rfl, Sy.same shc, Rds.same s2c _ _ rP, nH, nW, nL, fun Hd sd => ⟨true, rfl, iteF ?_⟩⟩
      have sbd := (sl.trans sc).trans sd
      have hand : Hd an = some (.lst (ns.map V.int)) := (sb.trans sbd) _ _ han
      have s2d := s2c.trans sd
      refine ⟨_, rfl, _, rfl, _, rfl, _, rfl, _, rfl, ah, aw, al, an, d, 1, ns, ws, hs, lns, rfl, Rds.same s2d _ _ rh, Rds.same s2d _ _ rw', Rds.same s2d _ _ rl, SqL.of hand, W, hd, fun pd Hn sn rD => ?_⟩
      have hH1 : (splitH hs d).length ≤ 10000 := by unfold splitH; rw [List.length_append]; show hs.length + 1 ≤ _; have := W.n; omega
      have hW1 : (splitW ws d 1).length ≤ 10000 := by unfold splitW; rw [List.length_set, List.length_append]; show ws.length + 1 ≤ _; have := W.n; omega
      have hL1 : (splitL lns d ns).length ≤ 10000 := by unfold splitL; rw [List.length_map, List.length_set, List.length_append]; show lns.length + 1 ≤ _; have := W.n; omega
      have shn := (shc.trans sd).trans sn
      refine ⟨_, rfl, _, rfl, _, rfl, _, rfl, y, an, (m : Int), (d : Int), 1, ns, hs, ws, lns, rfl, Sy.same shn, SqL.of (sn _ _ hand), by omega, W, by omega, by omega, .inl ⟨good32 S m2 hd hnl hnd hnr, fun y3 Hq sq Sq => ?_⟩⟩
      rw [Int.toNat_natCast] at Sq
      refine ⟨_, rfl, y3, .ref pd, _, _, _, rfl, Sq.same (newIn_sub _ _), Rds.same sq _ _ rD, hH1, hW1, hL1, fun Hr sr => ⟨true, rfl, iteF ?_⟩⟩
      exact ⟨s11.trans (((((((sa.trans sb).trans sl).trans sc).trans sd).trans sn).trans sq).trans sr), _, _, _, _, _, _, rfl⟩
    · rintro σ H11 ⟨s11, v7, v8, v9, v10, v11, v12, rfl⟩
      exact k _
end
end K32

set_option Elab.async false
set_option linter.all false
set_option maxRecDepth 100000
set_option maxHeartbeats 4000000
namespace K32
open PySem L2 Bs Sx
theorem all_mk {l : PySem.W.OpenLaw} {w : World} {K : PySem.W.Frag} {h : Heap} {mg : Str → Option Value} {fa : Addr} (X : K.In h) (G : h.Ns mainGlobals mg) (hfa : mg "law" = some (.ref fa))
    {f_copied_steps f_is_number_of f_check_part f_with_twins f_split f__law_nth f__law_mixed f__law_sheet f__law_half f__law_part f__law_divided f__law_is_sheet f__law_turned f__law_others f__law_is_refused f_Sheet___init__ c_Sheet fL c_BandError c_NoSigns c_TooMany c_NoWord c_NoRow c_Barred c_NoPlace c_NoNumber c_NoRate c_NoSplit c_NoLength c_Scarce c_Open c_NoData c_NoForm c_NoBand c_NoWriter : Addr}
    (a_copied_steps : PySem.W.nsIn K mainGlobals "copied_steps" = some (some (.ref f_copied_steps))) (r_copied_steps : Raw K "copied_steps" "copied_steps" (top 19) f_copied_steps)
    (a_is_number_of : PySem.W.nsIn K mainGlobals "is_number_of" = some (some (.ref f_is_number_of))) (r_is_number_of : Raw K "is_number_of" "is_number_of" (top 21) f_is_number_of)
    (a_check_part : PySem.W.nsIn K mainGlobals "check_part" = some (some (.ref f_check_part))) (r_check_part : Raw K "check_part" "check_part" (top 22) f_check_part)
    (a_with_twins : PySem.W.nsIn K mainGlobals "with_twins" = some (some (.ref f_with_twins))) (r_with_twins : Raw K "with_twins" "with_twins" (top 23) f_with_twins)
    (a_split : PySem.W.nsIn K mainGlobals "split" = some (some (.ref f_split))) (r_split : Raw K "split" "split" (top 24) f_split)
    (a__law_nth : PySem.W.nsIn K mainGlobals "_law_nth" = some (some (.ref f__law_nth))) (r__law_nth : Raw K "_law_nth" "_law_nth" (top 26) f__law_nth)
    (a__law_mixed : PySem.W.nsIn K mainGlobals "_law_mixed" = some (some (.ref f__law_mixed))) (r__law_mixed : Raw K "_law_mixed" "_law_mixed" (top 27) f__law_mixed)
    (a__law_sheet : PySem.W.nsIn K mainGlobals "_law_sheet" = some (some (.ref f__law_sheet))) (r__law_sheet : Raw K "_law_sheet" "_law_sheet" (top 28) f__law_sheet)
    (a__law_half : PySem.W.nsIn K mainGlobals "_law_half" = some (some (.ref f__law_half))) (r__law_half : Raw K "_law_half" "_law_half" (top 29) f__law_half)
    (a__law_part : PySem.W.nsIn K mainGlobals "_law_part" = some (some (.ref f__law_part))) (r__law_part : Raw K "_law_part" "_law_part" (top 30) f__law_part)
    (a__law_divided : PySem.W.nsIn K mainGlobals "_law_divided" = some (some (.ref f__law_divided))) (r__law_divided : Raw K "_law_divided" "_law_divided" (top 31) f__law_divided)
    (a__law_is_sheet : PySem.W.nsIn K mainGlobals "_law_is_sheet" = some (some (.ref f__law_is_sheet))) (r__law_is_sheet : Raw K "_law_is_sheet" "_law_is_sheet" (top 32) f__law_is_sheet)
    (a__law_turned : PySem.W.nsIn K mainGlobals "_law_turned" = some (some (.ref f__law_turned))) (r__law_turned : Raw K "_law_turned" "_law_turned" (top 33) f__law_turned)
    (a__law_others : PySem.W.nsIn K mainGlobals "_law_others" = some (some (.ref f__law_others))) (r__law_others : Raw K "_law_others" "_law_others" (top 34) f__law_others)
    (a__law_is_refused : PySem.W.nsIn K mainGlobals "_law_is_refused" = some (some (.ref f__law_is_refused))) (r__law_is_refused : Raw K "_law_is_refused" "_law_is_refused" (top 35) f__law_is_refused)
    (gc_Sheet : PySem.W.nsIn K mainGlobals "Sheet" = some (some (.ref c_Sheet)))
    (a_Sheet___init__ : PySem.W.findIn K (.ref c_Sheet) "__init__" = some (some (.ref f_Sheet___init__))) (i_Sheet___init__ : PySem.W.isFn K (.ref f_Sheet___init__) = true) (r_Sheet___init__ : Raw K "__init__" "Sheet.__init__" (inClass (top 20) 0) f_Sheet___init__)
    (aL : PySem.W.nsIn K mainGlobals "law" = some (some (.ref fL))) (rL : Raw K "law" "law" (top 36) fL)
    (pg_Sheet : PySem.W.plainGet K c_Sheet Str.empty = true)
    (hd_Sheet : PySem.W.hasDictIn K c_Sheet = true)
    (po_Sheet : PySem.W.plainOver K c_Sheet = true)
    (sa_Sheet : PySem.W.findIn K (.ref c_Sheet) "__setattr__" = some (some (.builtin "object.__setattr__")))
    (mk_Sheet : PySem.W.makesIn K c_Sheet = true)
    (kc_Sheet : PySem.W.keepIn K (.ref c_Sheet) = true)
    (n_Sheet_homes : PySem.W.findIn K (.ref c_Sheet) "homes" = some none)
    (n_Sheet_weights : PySem.W.findIn K (.ref c_Sheet) "weights" = some none)
    (n_Sheet_lines : PySem.W.findIn K (.ref c_Sheet) "lines" = some none)
    (uo_Sheet : PySem.W.findIn K (.ref c_Sheet) "__class__" = some (some (.builtin "object.__class__"))) (mo_Sheet : PySem.W.mroIn K c_Sheet (.type "object") = some true)
    (gc_BandError : PySem.W.nsIn K mainGlobals "BandError" = some (some (.ref c_BandError)))
    (xt : XTop K c_BandError "BandError") (xb1 : PySem.W.specialIn K (.ref c_BandError) "__getattribute__" = some (some (.builtin "type.__getattribute__"))) (xb2 : PySem.W.readsIn K c_BandError (.type "type") = true) (xb3 : PySem.W.findCls K (.ref c_BandError) (.type "type") "__init__" = some (.val (.builtin "ValueError.__init__")))
    (gc_NoSigns : PySem.W.nsIn K mainGlobals "NoSigns" = some (some (.ref c_NoSigns)))
    (ux_NoSigns : XRaw K c_NoSigns c_BandError "NoSigns")
    (gc_TooMany : PySem.W.nsIn K mainGlobals "TooMany" = some (some (.ref c_TooMany)))
    (ux_TooMany : XRaw K c_TooMany c_BandError "TooMany")
    (gc_NoWord : PySem.W.nsIn K mainGlobals "NoWord" = some (some (.ref c_NoWord)))
    (ux_NoWord : XRaw K c_NoWord c_BandError "NoWord")
    (gc_NoRow : PySem.W.nsIn K mainGlobals "NoRow" = some (some (.ref c_NoRow)))
    (ux_NoRow : XRaw K c_NoRow c_BandError "NoRow")
    (gc_Barred : PySem.W.nsIn K mainGlobals "Barred" = some (some (.ref c_Barred)))
    (ux_Barred : XRaw K c_Barred c_BandError "Barred")
    (gc_NoPlace : PySem.W.nsIn K mainGlobals "NoPlace" = some (some (.ref c_NoPlace)))
    (ux_NoPlace : XRaw K c_NoPlace c_BandError "NoPlace")
    (gc_NoNumber : PySem.W.nsIn K mainGlobals "NoNumber" = some (some (.ref c_NoNumber)))
    (ux_NoNumber : XRaw K c_NoNumber c_BandError "NoNumber")
    (gc_NoRate : PySem.W.nsIn K mainGlobals "NoRate" = some (some (.ref c_NoRate)))
    (ux_NoRate : XRaw K c_NoRate c_BandError "NoRate")
    (gc_NoSplit : PySem.W.nsIn K mainGlobals "NoSplit" = some (some (.ref c_NoSplit)))
    (ux_NoSplit : XRaw K c_NoSplit c_BandError "NoSplit") (us_NoSplit : PySem.W.findIn K (.ref c_NoSplit) "__setattr__" = some (some (.builtin "object.__setattr__"))) (ug_NoSplit : PySem.W.findIn K (.ref c_NoSplit) "__getattribute__" = some (some (.builtin "BaseException.__getattribute__"))) (uh_NoSplit : PySem.W.findIn K (.ref c_NoSplit) "__getattr__" = some none) (uk_NoSplit : PySem.W.keepIn K (.ref c_NoSplit) = true) (uc_NoSplit : PySem.W.findIn K (.ref c_NoSplit) "__class__" = some (some (.builtin "object.__class__")))
    (hi_NoSplit : PySem.W.findIn K (.ref c_NoSplit) "__init__" = some (some (.builtin "ValueError.__init__")))
    (gc_NoLength : PySem.W.nsIn K mainGlobals "NoLength" = some (some (.ref c_NoLength)))
    (ux_NoLength : XRaw K c_NoLength c_BandError "NoLength")
    (gc_Scarce : PySem.W.nsIn K mainGlobals "Scarce" = some (some (.ref c_Scarce)))
    (ux_Scarce : XRaw K c_Scarce c_BandError "Scarce")
    (gc_Open : PySem.W.nsIn K mainGlobals "Open" = some (some (.ref c_Open)))
    (ux_Open : XRaw K c_Open c_BandError "Open")
    (gc_NoData : PySem.W.nsIn K mainGlobals "NoData" = some (some (.ref c_NoData)))
    (ux_NoData : XRaw K c_NoData c_BandError "NoData")
    (gc_NoForm : PySem.W.nsIn K mainGlobals "NoForm" = some (some (.ref c_NoForm)))
    (ux_NoForm : XRaw K c_NoForm c_BandError "NoForm")
    (gc_NoBand : PySem.W.nsIn K mainGlobals "NoBand" = some (some (.ref c_NoBand)))
    (ux_NoBand : XRaw K c_NoBand c_BandError "NoBand")
    (gc_NoWriter : PySem.W.nsIn K mainGlobals "NoWriter" = some (some (.ref c_NoWriter)))
    (ux_NoWriter : XRaw K c_NoWriter c_BandError "NoWriter")
    (yn : PySem.W.specialIn K (.builtin "object.__class__") "__get__" = some (some (.builtin "getset_descriptor.__get__"))) (yt : PySem.W.takesIn K (.builtin "object.__class__") = some true)
    (z_ValueError : PySem.W.nsIn K mainGlobals "ValueError" = some none)
    (z_abs : PySem.W.nsIn K mainGlobals "abs" = some none)
    (z_all : PySem.W.nsIn K mainGlobals "all" = some none)
    (z_bool : PySem.W.nsIn K mainGlobals "bool" = some none)
    (z_enumerate : PySem.W.nsIn K mainGlobals "enumerate" = some none)
    (z_int : PySem.W.nsIn K mainGlobals "int" = some none)
    (z_isinstance : PySem.W.nsIn K mainGlobals "isinstance" = some none)
    (z_len : PySem.W.nsIn K mainGlobals "len" = some none)
    (z_list : PySem.W.nsIn K mainGlobals "list" = some none)
    (z_range : PySem.W.nsIn K mainGlobals "range" = some none)
    (z_sum : PySem.W.nsIn K mainGlobals "sum" = some none)
    : ∃ fd : FuncData, (∀ (s : Shared) (v : Value), BindsTo s fd ⟨[v], []⟩ [("_law_script", v)]) ∧ ∀ base : Heap, K.In base → base.Ns mainGlobals mg → FnOk l.prog w K mg base CX0 6 fa fd ["_law_script"] (spLaw K) := by
  have e := hfa.symm.trans (PySem.W.mg_of X G aL)
  cases e
  have T : Txt mg := ⟨PySem.W.mg_none_of X G z_ValueError, PySem.W.mg_none_of X G z_abs, PySem.W.mg_none_of X G z_all, PySem.W.mg_none_of X G z_bool, PySem.W.mg_none_of X G z_enumerate, PySem.W.mg_none_of X G z_int, PySem.W.mg_none_of X G z_isinstance, PySem.W.mg_none_of X G z_len, PySem.W.mg_none_of X G z_list, PySem.W.mg_none_of X G z_range, PySem.W.mg_none_of X G z_sum⟩
  obtain ⟨d_copied_steps, A_copied_steps⟩ := Raw.at_ (ps := ["line"]) X G a_copied_steps r_copied_steps fun _ _ _ _ _ _ us hl => match us, hl with | [_], _ => rfl
  obtain ⟨d_is_number_of, A_is_number_of⟩ := Raw.at_ (ps := ["number", "things"]) X G a_is_number_of r_is_number_of fun _ _ _ _ _ _ us hl => match us, hl with | [_, _], _ => rfl
  obtain ⟨d_check_part, A_check_part⟩ := Raw.at_ (ps := ["sheet", "many", "steps", "weight"]) X G a_check_part r_check_part fun _ _ _ _ _ _ us hl => match us, hl with | [_, _, _, _], _ => rfl
  obtain ⟨d_with_twins, A_with_twins⟩ := Raw.at_ (ps := ["line", "desk", "twin"]) X G a_with_twins r_with_twins fun _ _ _ _ _ _ us hl => match us, hl with | [_, _, _], _ => rfl
  obtain ⟨d_split, A_split⟩ := Raw.at_ (ps := ["sheet", "many", "desk", "numbers", "weight"]) X G a_split r_split fun _ _ _ _ _ _ us hl => match us, hl with | [_, _, _, _, _], _ => rfl
  obtain ⟨d__law_nth, A__law_nth⟩ := Raw.at_ (ps := ["_law_script", "_law_k"]) X G a__law_nth r__law_nth fun _ _ _ _ _ _ us hl => match us, hl with | [_, _], _ => rfl
  obtain ⟨d__law_mixed, A__law_mixed⟩ := Raw.at_ (ps := ["_law_cell", "_law_turn", "_law_many"]) X G a__law_mixed r__law_mixed fun _ _ _ _ _ _ us hl => match us, hl with | [_, _, _], _ => rfl
  obtain ⟨d__law_sheet, A__law_sheet⟩ := Raw.at_ (ps := ["_law_cell", "_law_many"]) X G a__law_sheet r__law_sheet fun _ _ _ _ _ _ us hl => match us, hl with | [_, _], _ => rfl
  obtain ⟨d__law_half, A__law_half⟩ := Raw.at_ (ps := ["_law_cell", "_law_many"]) X G a__law_half r__law_half fun _ _ _ _ _ _ us hl => match us, hl with | [_, _], _ => rfl
  obtain ⟨d__law_part, A__law_part⟩ := Raw.at_ (ps := ["_law_lines", "_law_weights", "_law_desk", "_law_numbers"]) X G a__law_part r__law_part fun _ _ _ _ _ _ us hl => match us, hl with | [_, _, _, _], _ => rfl
  obtain ⟨d__law_divided, A__law_divided⟩ := Raw.at_ (ps := ["_law_homes", "_law_weights", "_law_lines", "_law_desk", "_law_numbers", "_law_weight"]) X G a__law_divided r__law_divided fun _ _ _ _ _ _ us hl => match us, hl with | [_, _, _, _, _, _], _ => rfl
  obtain ⟨d__law_is_sheet, A__law_is_sheet⟩ := Raw.at_ (ps := ["_law_found", "_law_due"]) X G a__law_is_sheet r__law_is_sheet fun _ _ _ _ _ _ us hl => match us, hl with | [_, _], _ => rfl
  obtain ⟨d__law_turned, A__law_turned⟩ := Raw.at_ (ps := ["_law_cell", "_law_here", "_law_desk", "_law_numbers"]) X G a__law_turned r__law_turned fun _ _ _ _ _ _ us hl => match us, hl with | [_, _, _, _], _ => rfl
  obtain ⟨d__law_others, A__law_others⟩ := Raw.at_ (ps := ["_law_e"]) X G a__law_others r__law_others fun _ _ _ _ _ _ us hl => match us, hl with | [_], _ => rfl
  obtain ⟨d__law_is_refused, A__law_is_refused⟩ := Raw.at_ (ps := ["_law_sheet_here", "_law_many", "_law_desk", "_law_numbers", "_law_weight"]) X G a__law_is_refused r__law_is_refused fun _ _ _ _ _ _ us hl => match us, hl with | [_, _, _, _, _], _ => rfl
  obtain ⟨d_Sheet___init__, F_Sheet___init__, b_Sheet___init__⟩ := r_Sheet___init__.fn (ps := ["self", "homes", "weights", "lines"]) fun _ _ _ _ _ _ us hl => match us, hl with | [_, _, _, _], _ => rfl
  obtain ⟨⟨oc, od, kV, doc, pm, an, cdv, ct, osl, lk, hc⟩, hk⟩ := rL
  have FL := fun_mk (st := top 36) lk hc hk
  let L : Lk K mg := { T := T, f_copied_steps := f_copied_steps, d_copied_steps := d_copied_steps, a_copied_steps := A_copied_steps, f_is_number_of := f_is_number_of, d_is_number_of := d_is_number_of, a_is_number_of := A_is_number_of, f_check_part := f_check_part, d_check_part := d_check_part, a_check_part := A_check_part, f_with_twins := f_with_twins, d_with_twins := d_with_twins, a_with_twins := A_with_twins, f_split := f_split, d_split := d_split, a_split := A_split, f__law_nth := f__law_nth, d__law_nth := d__law_nth, a__law_nth := A__law_nth, f__law_mixed := f__law_mixed, d__law_mixed := d__law_mixed, a__law_mixed := A__law_mixed, f__law_sheet := f__law_sheet, d__law_sheet := d__law_sheet, a__law_sheet := A__law_sheet, f__law_half := f__law_half, d__law_half := d__law_half, a__law_half := A__law_half, f__law_part := f__law_part, d__law_part := d__law_part, a__law_part := A__law_part, f__law_divided := f__law_divided, d__law_divided := d__law_divided, a__law_divided := A__law_divided, f__law_is_sheet := f__law_is_sheet, d__law_is_sheet := d__law_is_sheet, a__law_is_sheet := A__law_is_sheet, f__law_turned := f__law_turned, d__law_turned := d__law_turned, a__law_turned := A__law_turned, f__law_others := f__law_others, d__law_others := d__law_others, a__law_others := A__law_others, f__law_is_refused := f__law_is_refused, d__law_is_refused := d__law_is_refused, a__law_is_refused := A__law_is_refused, f_Sheet___init__ := f_Sheet___init__, d_Sheet___init__ := d_Sheet___init__, m_Sheet___init__ := ⟨F_Sheet___init__, b_Sheet___init__, ⟨a_Sheet___init__, i_Sheet___init__, r_Sheet___init__.kp⟩⟩, c_Sheet := c_Sheet, g_Sheet := PySem.W.mg_of X G gc_Sheet, cl_Sheet := ⟨⟨pg_Sheet, hd_Sheet, po_Sheet, sa_Sheet⟩, n_Sheet_homes, n_Sheet_weights, n_Sheet_lines⟩, mk_Sheet := ⟨mk_Sheet, a_Sheet___init__, i_Sheet___init__, kc_Sheet⟩, Y_Sheet := ⟨uo_Sheet, yn, yt⟩, mo_Sheet := mo_Sheet, c_BandError := c_BandError, g_BandError := PySem.W.mg_of X G gc_BandError, XT := xt, XB := ⟨xb1, xb2, xb3⟩, c_NoSigns := c_NoSigns, g_NoSigns := PySem.W.mg_of X G gc_NoSigns, V_NoSigns := ux_NoSigns, c_TooMany := c_TooMany, g_TooMany := PySem.W.mg_of X G gc_TooMany, V_TooMany := ux_TooMany, c_NoWord := c_NoWord, g_NoWord := PySem.W.mg_of X G gc_NoWord, V_NoWord := ux_NoWord, c_NoRow := c_NoRow, g_NoRow := PySem.W.mg_of X G gc_NoRow, V_NoRow := ux_NoRow, c_Barred := c_Barred, g_Barred := PySem.W.mg_of X G gc_Barred, V_Barred := ux_Barred, c_NoPlace := c_NoPlace, g_NoPlace := PySem.W.mg_of X G gc_NoPlace, V_NoPlace := ux_NoPlace, c_NoNumber := c_NoNumber, g_NoNumber := PySem.W.mg_of X G gc_NoNumber, V_NoNumber := ux_NoNumber, c_NoRate := c_NoRate, g_NoRate := PySem.W.mg_of X G gc_NoRate, V_NoRate := ux_NoRate, c_NoSplit := c_NoSplit, g_NoSplit := PySem.W.mg_of X G gc_NoSplit, U_NoSplit := ⟨ux_NoSplit.lk, us_NoSplit, ug_NoSplit, uh_NoSplit, uk_NoSplit⟩, Y_NoSplit := ⟨uc_NoSplit, yn, yt⟩, hi_NoSplit := hi_NoSplit, c_NoLength := c_NoLength, g_NoLength := PySem.W.mg_of X G gc_NoLength, V_NoLength := ux_NoLength, c_Scarce := c_Scarce, g_Scarce := PySem.W.mg_of X G gc_Scarce, V_Scarce := ux_Scarce, c_Open := c_Open, g_Open := PySem.W.mg_of X G gc_Open, V_Open := ux_Open, c_NoData := c_NoData, g_NoData := PySem.W.mg_of X G gc_NoData, V_NoData := ux_NoData, c_NoForm := c_NoForm, g_NoForm := PySem.W.mg_of X G gc_NoForm, V_NoForm := ux_NoForm, c_NoBand := c_NoBand, g_NoBand := PySem.W.mg_of X G gc_NoBand, V_NoBand := ux_NoBand, c_NoWriter := c_NoWriter, g_NoWriter := PySem.W.mg_of X G gc_NoWriter, V_NoWriter := ux_NoWriter }
  exact ⟨_, fun s v => .of_eq rfl, fun base _ _ => ok_law L FL⟩
theorem walk {l : PySem.W.OpenLaw} {q : Program} {loose : List Str} {XP : (Str → Option Value) → Heap → Prop} {YP : World → Heap → Prop} {d : DefRec} {K : Params → PySem.W.Frag} (hn : l.most = some 63) (hdf : d.params.defaults = [])
    (hY : ∀ (w : World) (h : Heap), YP w h → (K w.params).In h)
    (F : ∀ (w : World) (mg : Str → Option Value) (fa : Addr) (h : Heap), (K w.params).In h → h.Ns mainGlobals mg → mg d.name = some (.ref fa) →
      ∃ fd : FuncData, (∀ (s : Shared) (u : Value), BindsTo s fd ⟨[u], []⟩ [("_law_script", u)]) ∧ ∀ base : Heap, (K w.params).In base → base.Ns mainGlobals mg → FnOk l.prog w (K w.params) mg base CX0 6 fa fd ["_law_script"] (spLaw (K w.params))) :
    PySem.W.WalkO q loose XP YP l.row.toRowW d [] (fun f vs => PySem.call f vs) :=
  L2.walk_of (n := 63) (k := 6) (x := "_law_script") (CX := fun _ => CX0) (sp := fun w => spLaw (K w.params)) hn (by decide) hdf ⟨rfl, by decide, by decide⟩ hY F (fun _ _ a ns hl _ hS => ⟨a, ns, rfl, hS, hl, fun _ => rfl⟩) fun _ _ _ _ _ z => z
end K32
open PySem PySem.W PyProof.Rows
set_option maxRecDepth 100000 in
set_option maxHeartbeats 0 in
theorem PySem.Challenge.cw_bandscribe_k32_no_split_holds : PySem.Challenge.rw_bandscribe_k32_no_split.Holds := by
  refine K32.toplaid ?_
  k_fill
  refine K32.walk (l := PySem.Challenge.rw_bandscribe_k32_no_split) rfl rfl (fun w h Y => PySem.W.kIn_of Y) ?F
  case F =>
    intro w mg fa h KX G hmg
    refine' K32.all_mk KX G hmg ?a_copied_steps (Sx.raw_mk ?l_copied_steps ?c_copied_steps ?k_copied_steps) ?a_is_number_of (Sx.raw_mk ?l_is_number_of ?c_is_number_of ?k_is_number_of) ?a_check_part (Sx.raw_mk ?l_check_part ?c_check_part ?k_check_part) ?a_with_twins (Sx.raw_mk ?l_with_twins ?c_with_twins ?k_with_twins) ?a_split (Sx.raw_mk ?l_split ?c_split ?k_split) ?a__law_nth (Sx.raw_mk ?l__law_nth ?c__law_nth ?k__law_nth) ?a__law_mixed (Sx.raw_mk ?l__law_mixed ?c__law_mixed ?k__law_mixed) ?a__law_sheet (Sx.raw_mk ?l__law_sheet ?c__law_sheet ?k__law_sheet) ?a__law_half (Sx.raw_mk ?l__law_half ?c__law_half ?k__law_half) ?a__law_part (Sx.raw_mk ?l__law_part ?c__law_part ?k__law_part) ?a__law_divided (Sx.raw_mk ?l__law_divided ?c__law_divided ?k__law_divided) ?a__law_is_sheet (Sx.raw_mk ?l__law_is_sheet ?c__law_is_sheet ?k__law_is_sheet) ?a__law_turned (Sx.raw_mk ?l__law_turned ?c__law_turned ?k__law_turned) ?a__law_others (Sx.raw_mk ?l__law_others ?c__law_others ?k__law_others) ?a__law_is_refused (Sx.raw_mk ?l__law_is_refused ?c__law_is_refused ?k__law_is_refused) ?gc_Sheet ?a_Sheet___init__ ?i_Sheet___init__ (Sx.raw_mk ?l_Sheet___init__ ?c_Sheet___init__ ?k_Sheet___init__) ?aL (Sx.raw_mk ?lL ?cL ?kL) ?pg_Sheet ?hd_Sheet ?po_Sheet ?sa_Sheet ?mk_Sheet ?kc_Sheet ?n_Sheet_homes ?n_Sheet_weights ?n_Sheet_lines ?uo_Sheet ?mo_Sheet ?gc_BandError (Sx.xtop_mk ?xtl) ?xb1 ?xb2 ?xb3 ?gc_NoSigns (Sx.xraw_mk ?ul_NoSigns) ?gc_TooMany (Sx.xraw_mk ?ul_TooMany) ?gc_NoWord (Sx.xraw_mk ?ul_NoWord) ?gc_NoRow (Sx.xraw_mk ?ul_NoRow) ?gc_Barred (Sx.xraw_mk ?ul_Barred) ?gc_NoPlace (Sx.xraw_mk ?ul_NoPlace) ?gc_NoNumber (Sx.xraw_mk ?ul_NoNumber) ?gc_NoRate (Sx.xraw_mk ?ul_NoRate) ?gc_NoSplit (Sx.xraw_mk ?ul_NoSplit) ?us_NoSplit ?ug_NoSplit ?uh_NoSplit ?uk_NoSplit ?uc_NoSplit ?hi_NoSplit ?gc_NoLength (Sx.xraw_mk ?ul_NoLength) ?gc_Scarce (Sx.xraw_mk ?ul_Scarce) ?gc_Open (Sx.xraw_mk ?ul_Open) ?gc_NoData (Sx.xraw_mk ?ul_NoData) ?gc_NoForm (Sx.xraw_mk ?ul_NoForm) ?gc_NoBand (Sx.xraw_mk ?ul_NoBand) ?gc_NoWriter (Sx.xraw_mk ?ul_NoWriter) ?yn ?yt ?z_ValueError ?z_abs ?z_all ?z_bool ?z_enumerate ?z_int ?z_isinstance ?z_len ?z_list ?z_range ?z_sum
    (case a_copied_steps => k_is); (case l_copied_steps => k_is); (case c_copied_steps => k_is); (case k_copied_steps => k_is); (case a_is_number_of => k_is)
    (case l_is_number_of => k_is); (case c_is_number_of => k_is); (case k_is_number_of => k_is); (case a_check_part => k_is); (case l_check_part => k_is)
    (case c_check_part => k_is); (case k_check_part => k_is); (case a_with_twins => k_is); (case l_with_twins => k_is); (case c_with_twins => k_is)
    (case k_with_twins => k_is); (case a_split => k_is); (case l_split => k_is); (case c_split => k_is); (case k_split => k_is)
    (case a__law_nth => k_is); (case l__law_nth => k_is); (case c__law_nth => k_is); (case k__law_nth => k_is); (case a__law_mixed => k_is)
    (case l__law_mixed => k_is); (case c__law_mixed => k_is); (case k__law_mixed => k_is); (case a__law_sheet => k_is); (case l__law_sheet => k_is)
    (case c__law_sheet => k_is); (case k__law_sheet => k_is); (case a__law_half => k_is); (case l__law_half => k_is); (case c__law_half => k_is)
    (case k__law_half => k_is); (case a__law_part => k_is); (case l__law_part => k_is); (case c__law_part => k_is); (case k__law_part => k_is)
    (case a__law_divided => k_is); (case l__law_divided => k_is); (case c__law_divided => k_is); (case k__law_divided => k_is); (case a__law_is_sheet => k_is)
    (case l__law_is_sheet => k_is); (case c__law_is_sheet => k_is); (case k__law_is_sheet => k_is); (case a__law_turned => k_is); (case l__law_turned => k_is)
    (case c__law_turned => k_is); (case k__law_turned => k_is); (case a__law_others => k_is); (case l__law_others => k_is); (case c__law_others => k_is)
    (case k__law_others => k_is); (case a__law_is_refused => k_is); (case l__law_is_refused => k_is); (case c__law_is_refused => k_is); (case k__law_is_refused => k_is)
    (case gc_Sheet => k_is); (case a_Sheet___init__ => k_is); (case i_Sheet___init__ => k_is); (case l_Sheet___init__ => k_is); (case c_Sheet___init__ => k_is)
    (case k_Sheet___init__ => k_is); (case aL => k_is); (case lL => k_is); (case cL => k_is); (case kL => k_is)
    (case pg_Sheet => k_is); (case hd_Sheet => k_is); (case po_Sheet => k_is); (case sa_Sheet => k_is); (case mk_Sheet => k_is)
    (case kc_Sheet => k_is); (case n_Sheet_homes => k_is); (case n_Sheet_weights => k_is); (case n_Sheet_lines => k_is); (case uo_Sheet => k_is)
    (case mo_Sheet => k_is); (case gc_BandError => k_is); (case xtl => k_is); (case xb1 => k_is); (case xb2 => k_is)
    (case xb3 => k_is); (case gc_NoSigns => k_is); (case ul_NoSigns => k_is); (case gc_TooMany => k_is); (case ul_TooMany => k_is)
    (case gc_NoWord => k_is); (case ul_NoWord => k_is); (case gc_NoRow => k_is); (case ul_NoRow => k_is); (case gc_Barred => k_is)
    (case ul_Barred => k_is); (case gc_NoPlace => k_is); (case ul_NoPlace => k_is); (case gc_NoNumber => k_is); (case ul_NoNumber => k_is)
    (case gc_NoRate => k_is); (case ul_NoRate => k_is); (case gc_NoSplit => k_is); (case ul_NoSplit => k_is); (case us_NoSplit => k_is)
    (case ug_NoSplit => k_is); (case uh_NoSplit => k_is); (case uk_NoSplit => k_is); (case uc_NoSplit => k_is); (case hi_NoSplit => k_is)
    (case gc_NoLength => k_is); (case ul_NoLength => k_is); (case gc_Scarce => k_is); (case ul_Scarce => k_is); (case gc_Open => k_is)
    (case ul_Open => k_is); (case gc_NoData => k_is); (case ul_NoData => k_is); (case gc_NoForm => k_is); (case ul_NoForm => k_is)
    (case gc_NoBand => k_is); (case ul_NoBand => k_is); (case gc_NoWriter => k_is); (case ul_NoWriter => k_is); (case yn => k_is)
    (case yt => k_is); (case z_ValueError => k_is); (case z_abs => k_is); (case z_all => k_is); (case z_bool => k_is)
    (case z_enumerate => k_is); (case z_int => k_is); (case z_isinstance => k_is); (case z_len => k_is); (case z_list => k_is)
    (case z_range => k_is); (case z_sum => k_is)
#print axioms PySem.Challenge.cw_bandscribe_k32_no_split_holds

