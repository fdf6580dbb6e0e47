import PyProof.Rows.All
import Wide.All
import OpenK.AllK
import Wide.FinOn
import Lean
import PyProof.EqAt
import PyProof.EqKinds
import PyProof.TupleCall
import KE.KUnpack
import PyProof.StrWalks
import PyProof.Rows.SortStr
import PyProof.FactsAll.dict_1
import PyProof.FactsAll.subtypes_3
import PyProof.FactsAll.subtypes_4
import PyProof.StrLawsIn
import PyProof.ListMulRoad
import PyProof.FactsAll.tuple
import PyProof.FactsAll.str
import KE.KIntText
import PyProof.StrBlockH
import PyProof.Rows.FStr
import PyProof.StrLawsTight
import KE.KDictSum
import PyProof.StrBlock2
import PyProof.Rows.SetFrom
import KE.KSortTup
import KE.KSortKey
import PyProof.Rows.CallKwBuiltin
import PyProof.Rows.Range3
import PyProof.ListRange
import PySem.Challenge.RW_goneday_k10_whole_webs_without_rings
set_option Elab.async false
set_option linter.all false
set_option maxRecDepth 100000
-- CHANGE: your row's module here, as the last of these rows
/-! THE HAND LAYER, for ints, bools, texts, own classes, LISTS and tuples (index, slices, in, append, pop ..), calls, loops. Paste it whole ahead of your own text; what your proof does not reach may be deleted. -/
namespace L2
open PySem PySem.Spec PyProof.Rows

/-- a key: an int or a str -/
abbrev Key := Sum Int Str
def keyIs : Key → Value → Bool
  | .inl k, v => Value.isInt k v
  | .inr x, v => Value.isStrOf x v
def keyH (w : World) : Key → Int
  | .inl k => hashInt k
  | .inr x => hashStr w x
theorem keyIs_shape : ∀ {k : Key} {v : Value}, keyIs k v = true → (∃ i t, k = Sum.inl i ∧ v = Value.int i t) ∨ (∃ x t, k = Sum.inr x ∧ v = Value.str x t)
  | .inl i, v, h => by
    obtain ⟨t, e⟩ := Value.isInt_shape (k := i) (v := v) h
    exact .inl ⟨i, t, rfl, e⟩
  | .inr x, v, h => by
    obtain ⟨t, e⟩ := Value.isStrOf_shape (x := x) (v := v) h
    exact .inr ⟨x, t, rfl, e⟩
theorem keyIs_int (i : Int) (t : Tok) : keyIs (.inl i) (.int i t) = true := by simp [keyIs, Value.isInt]
theorem keyIs_str (x : Str) (t : Tok) : keyIs (.inr x) (.str x t) = true := by simp [keyIs, Value.isStrOf]
theorem key_ll (a b : Int) : decide ((Sum.inl a : Key) = Sum.inl b) = (a == b) := by
  by_cases e : a = b
  · subst e; simp
  · have h : ¬ (Sum.inl a : Key) = Sum.inl b := fun q => e (Sum.inl.inj q)
    rw [decide_eq_false h]
    exact (beq_eq_false_iff_ne.mpr e).symm
theorem key_rr (a b : Str) : decide ((Sum.inr a : Key) = Sum.inr b) = decide (a = b) := by
  by_cases e : a = b
  · subst e; simp
  · have h : ¬ (Sum.inr a : Key) = Sum.inr b := fun q => e (Sum.inr.inj q)
    rw [decide_eq_false h, decide_eq_false e]
theorem key_lr (a : Int) (b : Str) : decide ((Sum.inl a : Key) = Sum.inr b) = false := decide_eq_false (fun q => nomatch q)
theorem key_rl (a : Str) (b : Int) : decide ((Sum.inr a : Key) = Sum.inl b) = false := decide_eq_false (fun q => nomatch q)

def mixKind (prog : Program) (w : World) : PySem.KeyKind prog w Key where
  is := keyIs
  hash := keyH w
  inj := fun v a b ha hb => by
    rcases keyIs_shape ha with ⟨i, t, rfl, rfl⟩ | ⟨x, t, rfl, rfl⟩
    · rcases keyIs_shape hb with ⟨j, u, rfl, e⟩ | ⟨y, u, rfl, e⟩
      · injection e with e1 _; rw [e1]
      · exact nomatch e
    · rcases keyIs_shape hb with ⟨j, u, rfl, e⟩ | ⟨y, u, rfl, e⟩
      · exact nomatch e
      · injection e with e1 _; rw [e1]
  byValue := fun k v h => by
    rcases keyIs_shape h with ⟨i, t, rfl, rfl⟩ | ⟨x, t, rfl, rfl⟩ <;> rfl
  pyHash := fun hv h => by
    rcases keyIs_shape hv with ⟨i, t, rfl, rfl⟩ | ⟨x, t, rfl, rfl⟩
    · exact wpAny_pyHash_int h
    · exact wpAny_pyHash_str h
  eqBool := fun hu hv h => by
    rcases keyIs_shape hu with ⟨i, t, rfl, rfl⟩ | ⟨x, t, rfl, rfl⟩
    · rcases keyIs_shape hv with ⟨j, u, rfl, rfl⟩ | ⟨y, u, rfl, rfl⟩
      · rw [key_ll] at h; exact wpAny_eqBool_int h
      · rw [key_lr] at h; exact SeqAt.EqAt.int_str i t y u _ _ _ _ h
    · rcases keyIs_shape hv with ⟨j, u, rfl, rfl⟩ | ⟨y, u, rfl, rfl⟩
      · rw [key_rl] at h; exact SeqAt.EqAt.str_int x t j u _ _ _ _ h
      · rw [key_rr] at h; exact wpAny_eqBool_str h
  «strs» := fun k x t v h => by
    rcases keyIs_shape h with ⟨i, u, rfl, e⟩ | ⟨y, u, rfl, e⟩
    · exact nomatch e
    · injection e with e1 _
      subst e1
      cases v <;> rfl

theorem mixKind_int (prog : Program) (w : World) (i : Int) (t : Tok) : (mixKind prog w).is (.inl i) (.int i t) = true := keyIs_int i t
theorem mixKind_str (prog : Program) (w : World) (x : Str) (t : Tok) : (mixKind prog w).is (.inr x) (.str x t) = true := keyIs_str x t
end L2

namespace L2
open PySem PySem.Spec PyProof.Rows

/-- a value, without the heap -/
inductive V where
  | non | bl (b : Bool) | int (i : Int) | str (x : Str) | byt (b : Array UInt8) | flt (b : UInt64) | ref (a : Addr) | ty (n : String)
  deriving DecidableEq

def RelV : V → Value → Prop
  | .non, u => u = Value.none
  | .bl b, u => u = Value.bool b
  | .int i, u => ∃ t, u = Value.int i t
  | .str x, u => ∃ t, u = Value.str x t
  | .byt b, u => ∃ t, u = Value.bytes b t
  | .flt b, u => ∃ t, u = Value.float b t
  | .ref a, u => u = Value.ref a
  | .ty n, u => u = Value.type n

abbrev Vals : List V → List Value → Prop := Paired RelV
theorem Vals.length {xs : List V} {us : List Value} (r : Vals xs us) : xs.length = us.length := Paired.length r
theorem Vals.get : ∀ {xs : List V} {us : List Value} {i : Nat} {x : V}, Vals xs us → xs[i]? = some x → ∃ u, us[i]? = some u ∧ RelV x u
  | _, _, _, _, .nil, e => by simp at e
  | _, _, 0, _, .cons r _, e => by simp at e; subst e; exact ⟨_, rfl, r⟩
  | _, _, i + 1, x, .cons _ t, e => by
    obtain ⟨u, h1, h2⟩ := Vals.get (i := i) (x := x) t (by simpa using e)
    exact ⟨u, by simpa using h1, h2⟩
theorem Vals.set {x : V} {u : Value} (r : RelV x u) : ∀ {xs : List V} {us : List Value} (i : Nat), Vals xs us → Vals (xs.set i x) (us.set i u)
  | _, _, _, .nil => .nil
  | _, _, 0, .cons _ t => .cons r t
  | _, _, i + 1, .cons q t => .cons q (Vals.set r i t)
theorem Vals.append : ∀ {xs ys : List V} {us ws : List Value}, Vals xs us → Vals ys ws → Vals (xs ++ ys) (us ++ ws)
  | _, _, _, _, .nil, s => s
  | _, _, _, _, .cons r t, s => .cons r (Vals.append t s)
theorem Vals.take : ∀ {xs : List V} {us : List Value} (n : Nat), Vals xs us → Vals (xs.take n) (us.take n)
  | _, _, 0, _ => .nil
  | _, _, _ + 1, .nil => .nil
  | _, _, n + 1, .cons r t => .cons r (Vals.take n t)
theorem Vals.drop : ∀ {xs : List V} {us : List Value} (n : Nat), Vals xs us → Vals (xs.drop n) (us.drop n)
  | _, _, 0, r => r
  | _, _, _ + 1, .nil => .nil
  | _, _, n + 1, .cons _ t => Vals.drop n t
def RelO : Option V → Option Value → Prop
  | some v, some u => RelV v u
  | none, none => True
  | _, _ => False
def KV {κ : Type} : List (κ × V) → List (κ × Value) → Prop := Paired fun (p : κ × V) (q : κ × Value) => p.1 = q.1 ∧ RelV p.2 q.2

/-- a key of a dict (00_mix): an int or a text -/
def kV : Key → V
  | .inl i => .int i
  | .inr x => .str x

/-- what stands at a tracked address -/
inductive HO where
  /-- a list -/
  | lst (xs : List V)
  /-- a tuple (never changes) -/
  | tup (xs : List V)
  /-- a dict whose keys are ints and texts; one whose keys are tuples of ints and texts (the empty one is both) -/
  | dK (kvs : List (Key × V)) | dT (kvs : List (List Key × V))
  /-- a set of ints: its members, its size -/
  | set (S : Int → Bool) (n : Nat)
  /-- an instance of the class at C, its dict at dx, its attributes -/
  | ins (C dx : Addr) (fs : List (Str × V))
  /-- the dict of the instance at x -/
  | own (x : Addr)
  /-- the dict of an exception -/
  | xd (fs : List (Str × V))
  /-- a bound method, f of x -/
  | met (f x : Addr)
  /-- a range object lo, lo + 1, .. below hi -/
  | rng (lo hi : Int)
  /-- a thing that is known to the object (the script; a dict while a loop walks it): read, never written while it is so -/
  | frz (o : Obj) (u : HO)
  /-- a code object's table -/
  | tbl (ps : Array Value)
  /-- any other thing, by what is true of its one object (a def of one's own: SetO a S n := HO.ext fun h => ..) -/
  | ext (φ : Heap → Prop)

abbrev Hp := Addr → Option HO
def upd (H : Hp) (a : Addr) (o : HO) : Hp := fun b => if b = a then some o else H b
theorem upd_same {H : Hp} {a : Addr} {o : HO} : upd H a o a = some o := by unfold upd; rw [if_pos rfl]
theorem upd_ne {H : Hp} {a b : Addr} {o : HO} (h : b ≠ a) : upd H a o b = H b := by unfold upd; rw [if_neg h]
/-- two objects of different content stand apart -/
theorem ne_of {H : Hp} {a b : Addr} {o u : HO} (h : H a = some o) (h' : H b = some u) (d : o ≠ u) : a ≠ b := by
  intro e; subst e; rw [h] at h'; exact d (Option.some.inj h')
theorem ne_of_none {H : Hp} {a b : Addr} {o : HO} (h : H a = some o) (h' : H b = none) : a ≠ b := by
  intro e; subst e; rw [h] at h'; cases h'

section
variable (P : Program) (w : World)
def ObjOk (H : Hp) (h : Heap) (a : Addr) : HO → Prop
  | .lst xs => xs.length ≤ sizeLine ∧ ∃ (its : List Value) (n : Nat), Vals xs its ∧ h.get? a = some { cls := .type "list", data := .seq its.toArray n }
  | .tup xs => xs.length ≤ sizeLine ∧ ∃ its : List Value, Vals xs its ∧ IsTup h a its.toArray
  | .dK kvs => kvs.length ≤ sizeLine ∧ (a == sysModules) = false ∧ ∃ vs, KV kvs vs ∧ h.DictOf (mixKind P w) a vs
  | .dT kvs => kvs.length ≤ sizeLine ∧ (a == sysModules) = false ∧ ∃ xs : List (List Key × Addr × Value),
      Paired (fun (p : List Key × V) (q : List Key × Addr × Value) => p.1 = q.1 ∧ H q.2.1 = some (.tup (p.1.map kV)) ∧ RelV p.2 q.2.2) kvs xs ∧
      ∃ o es ep, h.get? a = some o ∧ o.ExactDict ∧ o.data = .dict es ep ∧ es.toList = xs.map (entryOfKey (tupleKind (mixKind P w))) ∧ (xs.map (·.1)).Nodup
  | .set S n => h.SetOf (intKind P w) a S n
  | .ins C dx fs => H dx = some (.own a) ∧ fs.length ≤ 1000 ∧ dx ≠ a ∧ h.get? a = some (PySem.W.instObj C dx) ∧
      ∃ mA, h.Ns1 dx mA ∧ (∀ f, RelO (fs.lookup f) (mA f)) ∧ PySem.Within mA (fs.map (·.1))
  | .own _ => ∃ o, h.get? a = some o
  | .xd fs => ∃ mA, h.Ns1 a mA ∧ ∀ f, RelO (fs.lookup f) (mA f)
  | .rng lo hi => ∃ t u v, h.get? a = some { cls := .type "range", data := .fields #[.int lo t, .int hi u, .int 1 v] }
  | .frz o u => h.get? a = some o ∧ ObjOk H h a u
  | .tbl ps => h.get? a = some { cls := .none, data := .fields ps }
  | .met f x => h.get? a = some (PySem.W.methodObj (.ref f) (.ref x))
  | .ext φ => φ h ∧ (∃ o, h.get? a = some o) ∧ ∀ h1 h2 : Heap, φ h1 → (∀ o, h1.get? a = some o → h2.get? a = some o) → φ h2
/-- the abstract heap is held -/
def HOk (H : Hp) (h : Heap) : Prop := ∀ a o, H a = some o → ObjOk P w H h a o
end

section
variable {P : Program} {w : World} {H H' : Hp} {h h' : Heap} {a : Addr} {o : HO}
theorem ObjOk.lt (x : ObjOk P w H h a o) : a < h.objs.size := by
  cases o with
  | lst xs => obtain ⟨_, _, _, _, e⟩ := x; exact Heap.lt_size e
  | tup xs => obtain ⟨_, _, _, p⟩ := x; exact p.lt
  | dK kvs => obtain ⟨_, _, _, _, o, _, _, e, _⟩ := x; exact Heap.lt_size e
  | dT kvs => obtain ⟨_, _, _, _, o, _, _, e, _⟩ := x; exact Heap.lt_size e
  | set S n => obtain ⟨o, _, _, _, e, _⟩ := x; exact Heap.lt_size e
  | ins C dx fs => obtain ⟨_, _, _, e, _⟩ := x; exact Heap.lt_size e
  | own y => obtain ⟨_, e⟩ := x; exact Heap.lt_size e
  | xd fs => obtain ⟨_, ⟨_, _, _, e, _⟩, _⟩ := x; exact Heap.lt_size e
  | rng lo hi => obtain ⟨_, _, _, e⟩ := x; exact Heap.lt_size e
  | frz ob u => obtain ⟨e, _⟩ := x; exact Heap.lt_size e
  | tbl ps => exact Heap.lt_size (show h.get? a = some _ from x)
  | met f y => exact Heap.lt_size (show h.get? a = some _ from x)
  | ext φ => obtain ⟨_, ⟨_, e⟩, _⟩ := x; exact Heap.lt_size e
theorem Paired.mapP {α β : Type} {F G : α → β → Prop} : ∀ {l₁ : List α} {l₂ : List β}, Paired F l₁ l₂ → (∀ a b, F a b → G a b) → Paired G l₁ l₂
  | _, _, .nil, _ => .nil
  | _, _, .cons r t, f => .cons (f _ _ r) (Paired.mapP t f)
/-- what an object's description leans on: its own object, its own dict, the tuples -/
theorem ObjOk.stay (x : ObjOk P w H h a o) (k : ∀ b u, (b = a ∨ H b = some (.own a)) → h.get? b = some u → h'.get? b = some u)
    (ho : ∀ b, H b = some (.own a) → H' b = some (.own a)) (ht : ∀ b xs, H b = some (.tup xs) → H' b = some (.tup xs)) : ObjOk P w H' h' a o := by
  induction o with
  | lst xs => obtain ⟨z, its, n, r, e⟩ := x; exact ⟨z, its, n, r, k _ _ (.inl rfl) e⟩
  | tup xs => obtain ⟨z, its, r, ob, e, c⟩ := x; exact ⟨z, its, r, ob, k _ _ (.inl rfl) e, c⟩
  | dK kvs => obtain ⟨z, y, vs, r, ob, es, ep, e, c⟩ := x; exact ⟨z, y, vs, r, ob, es, ep, k _ _ (.inl rfl) e, c⟩
  | dT kvs =>
    obtain ⟨z, y, xs, r, ob, es, ep, e, c⟩ := x
    exact ⟨z, y, xs, Paired.mapP r fun p q z => ⟨z.1, ht _ _ z.2.1, z.2.2⟩, ob, es, ep, k _ _ (.inl rfl) e, c⟩
  | set S n => obtain ⟨ob, es, ep, t, e, c⟩ := x; exact ⟨ob, es, ep, t, k _ _ (.inl rfl) e, c⟩
  | ins C dx fs =>
    obtain ⟨d, z, ne, e, mA, ⟨od, es, ep, e2, c⟩, r⟩ := x
    exact ⟨ho _ d, z, ne, k _ _ (.inl rfl) e, mA, ⟨od, es, ep, k _ _ (.inr d) e2, c⟩, r⟩
  | own y => obtain ⟨ob, e⟩ := x; exact ⟨ob, k _ _ (.inl rfl) e⟩
  | xd fs => obtain ⟨mA, ⟨od, es, ep, e, c⟩, r⟩ := x; exact ⟨mA, ⟨od, es, ep, k _ _ (.inl rfl) e, c⟩, r⟩
  | rng lo hi => obtain ⟨t, u, v, e⟩ := x; exact ⟨t, u, v, k _ _ (.inl rfl) e⟩
  | frz ob u ih => obtain ⟨e, q⟩ := x; exact ⟨k _ _ (.inl rfl) e, ih q⟩
  | tbl ps =>
    have e : h.get? a = some { cls := .none, data := .fields ps } := x
    show h'.get? a = some { cls := .none, data := .fields ps }
    exact k a _ (.inl rfl) e
  | met f y =>
    have e : h.get? a = some (PySem.W.methodObj (.ref f) (.ref y)) := x
    show h'.get? a = some (PySem.W.methodObj (.ref f) (.ref y))
    exact k a _ (.inl rfl) e
  | ext φ => obtain ⟨p, ⟨o, e⟩, st⟩ := x; exact ⟨st _ _ p fun o q => k _ _ (.inl rfl) q, ⟨o, k _ _ (.inl rfl) e⟩, st⟩
theorem HOk.lt (x : HOk P w H h) (e : H a = some o) : a < h.objs.size := (x a o e).lt
theorem HOk.fresh (x : HOk P w H h) (e : h.objs.size ≤ a) : H a = none := by
  cases q : H a with
  | none => rfl
  | some u => exact absurd (Nat.lt_of_lt_of_le (x.lt q) e) (Nat.lt_irrefl _)
/-- every object of the heap is kept -/
theorem HOk.kept (x : HOk P w H h) (k : ∀ b u, h.get? b = some u → h'.get? b = some u) : HOk P w H h' := fun a o e =>
  (x a o e).stay (fun b u _ q => k b u q) (fun _ q => q) fun _ _ q => q
/-- a new object is laid and tracked -/
theorem HOk.laid (x : HOk P w H h) (k : ∀ b u, h.get? b = some u → h'.get? b = some u) (hp : h.objs.size ≤ a) (new : ObjOk P w (upd H a o) h' a o) : HOk P w (upd H a o) h' := fun b u e => by
  have hn := x.fresh hp
  by_cases hb : b = a
  · subst hb; rw [upd_same] at e; cases e; exact new
  · rw [upd_ne hb] at e
    exact (x b u e).stay (fun c v _ q => k c v q) (fun c q => by rw [upd_ne (ne_of_none q hn)]; exact q) fun c xs q => by rw [upd_ne (ne_of_none q hn)]; exact q
end

/-- what may be read as u: it is u, or a known u -/
def Rd (H : Hp) (a : Addr) (u : HO) : Prop := H a = some u ∨ ∃ o, H a = some (.frz o u)
theorem Rd.of {H : Hp} {a : Addr} {u : HO} (h : H a = some u) : Rd H a u := .inl h
theorem Rd.ok {P : Program} {w : World} {H : Hp} {h : Heap} {a : Addr} {u : HO} (r : Rd H a u) (x : HOk P w H h) : ObjOk P w H h a u := by
  rcases r with r | ⟨o, r⟩
  · exact x a u r
  · obtain ⟨_, q⟩ := x a _ r
    exact q
/-- what may be written -/
def Mut : Option HO → Prop
  | some (.lst _) => True
  | some (.dK _) => True
  | some (.dT _) => True
  | some (.set _ _) => True
  | some (.ins _ _ _) => True
  | some (.ext _) => True
  | _ => False
section
variable {P : Program} {w : World} {H : Hp} {h h' : Heap} {x e : Addr} {o' : HO}
/-- the object at e is changed: x itself, or the dict of the instance x -/
theorem HOk.write (ok : HOk P w H h) (mu : Mut (H x)) (he : e = x ∨ H e = some (.own x)) (k : ∀ b u, b ≠ e → h.get? b = some u → h'.get? b = some u) (heo : ∃ u, h'.get? e = some u)
    (new : ObjOk P w (upd H x o') h' x o') : HOk P w (upd H x o') h' := fun b u q => by
  have nown : ∀ c y, H c = some (.own y) → c ≠ x := fun c y r z => by subst z; rw [r] at mu; exact mu
  have ntup : ∀ c xs, H c = some (.tup xs) → c ≠ x := fun c xs r z => by subst z; rw [r] at mu; exact mu
  by_cases hb : b = x
  · subst hb; rw [upd_same] at q; cases q; exact new
  · rw [upd_ne hb] at q
    by_cases hbe : b = e
    · have q' : H b = some (.own x) := by
        rcases he with z | z
        · exact absurd (hbe.trans z) hb
        · rw [hbe]; exact z
      rw [q] at q'; cases q'
      obtain ⟨v, hv⟩ := heo
      exact ⟨v, by rw [hbe]; exact hv⟩
    · refine (ok b u q).stay (fun c v hc r => k c v ?_ r) (fun c r => by rw [upd_ne (nown c b r)]; exact r) fun c xs r => by rw [upd_ne (ntup c xs r)]; exact r
      rcases hc with rfl | hc
      · exact hbe
      · rintro rfl
        rcases he with z | z
        · exact nown c b hc z
        · rw [hc] at z; cases z; exact hb rfl
end

/-! ### kept unless tracked; of the frames at fs (the callers') the slots may change (an exception that passes writes there); of the records at ex (iterators) nothing is said -/
structure Un (fs ex : List Addr) (H H' : Hp) (h h' : Heap) : Prop where
  keep : ∀ b o, h.get? b = some o → H b = none → b ∉ fs → b ∉ ex → h'.get? b = some o
  slot : ∀ b o, h.get? b = some o → H b = none → b ∈ fs → b ∉ ex → ∃ sl, h'.get? b = some { o with slots := sl }
  free : ∀ b o, h.get? b = some o → H b = none → b ∉ ex → H' b = none
  there : ∀ b o, h.get? b = some o → b ∉ ex → ∃ o', h'.get? b = some o'
  tups : ∀ b xs, H b = some (.tup xs) → H' b = some (.tup xs)
  frzs : ∀ b o u, H b = some (.frz o u) → H' b = some (.frz o u)
  tbls : ∀ b ps, H b = some (.tbl ps) → ∃ more, H' b = some (.tbl (ps ++ more))
section
variable {fs fs' ex ex' : List Addr} {H H1 H2 : Hp} {h h1 h2 h' : Heap} {a x e : Addr} {o : HO}
theorem Un.any (u : Un fs ex H H1 h h1) {b : Addr} {ob : Obj} (q : h.get? b = some ob) (n : H b = none) (hx : b ∉ ex) : ∃ sl, h1.get? b = some { ob with slots := sl } := by
  by_cases hb : b ∈ fs
  · exact u.slot b ob q n hb hx
  · exact ⟨ob.slots, u.keep b ob q n hb hx⟩
theorem Un.trans (a : Un fs ex H H1 h h1) (b : Un fs ex H1 H2 h1 h2) : Un fs ex H H2 h h2 where
  keep := fun c ob q n hc hx => b.keep c ob (a.keep c ob q n hc hx) (a.free c ob q n hx) hc hx
  slot := fun c ob q n hc hx => by
    obtain ⟨sl, e1⟩ := a.slot c ob q n hc hx
    obtain ⟨sl', e2⟩ := b.slot c _ e1 (a.free c ob q n hx) hc hx
    exact ⟨sl', e2⟩
  free := fun c ob q n hx => by
    obtain ⟨o', e1⟩ := a.there c ob q hx
    exact b.free c o' e1 (a.free c ob q n hx) hx
  there := fun c ob q hx => by
    obtain ⟨o', e1⟩ := a.there c ob q hx
    exact b.there c o' e1 hx
  tups := fun c xs q => b.tups c xs (a.tups c xs q)
  frzs := fun c ob xs q => b.frzs c ob xs (a.frzs c ob xs q)
  tbls := fun c ps q => by
    obtain ⟨m1, e1⟩ := a.tbls c ps q
    obtain ⟨m2, e2⟩ := b.tbls c _ e1
    exact ⟨m1 ++ m2, by rw [e2, Array.append_assoc]⟩
theorem Un.kept (k : ∀ b u, h.get? b = some u → h'.get? b = some u) : Un fs ex H H h h' :=
  ⟨fun b ob q _ _ _ => k b ob q, fun b ob q _ _ _ => ⟨ob.slots, k b ob q⟩, fun _ _ _ n _ => n, fun b ob q _ => ⟨ob, k b ob q⟩, fun _ _ q => q, fun _ _ _ q => q, fun _ ps q => ⟨#[], by rw [q]; simp⟩⟩
theorem Un.refl : Un fs ex H H h h := Un.kept fun _ _ q => q
theorem Un.laid (k : ∀ b u, h.get? b = some u → h'.get? b = some u) (hp : h.objs.size ≤ a) (hn : H a = none) : Un fs ex H (upd H a o) h h' where
  keep := fun b u q _ _ _ => k b u q
  slot := fun b u q _ _ _ => ⟨u.slots, k b u q⟩
  free := fun b u q n _ => by rw [upd_ne (Nat.ne_of_lt (Nat.lt_of_lt_of_le (Heap.lt_size q) hp))]; exact n
  there := fun b u q _ => ⟨u, k b u q⟩
  tups := fun b xs q => by rw [upd_ne (ne_of_none q hn)]; exact q
  frzs := fun b u xs q => by rw [upd_ne (ne_of_none q hn)]; exact q
  tbls := fun b ps q => ⟨#[], by rw [upd_ne (ne_of_none q hn), q]; simp⟩
theorem Un.write (mu : Mut (H x)) (he : e = x ∨ H e = some (.own x)) (k : ∀ b u, b ≠ e → h.get? b = some u → h'.get? b = some u) (heo : ∃ u, h'.get? e = some u) : Un fs ex H (upd H x o) h h' := by
  have hx : ∀ b, H b = none → b ≠ x := fun b n z => by subst z; rw [n] at mu; exact mu
  have hb : ∀ b, H b = none → b ≠ e := fun b n z => by
    subst z
    rcases he with r | r
    · exact hx b n r
    · rw [n] at r; cases r
  have hm : ∀ b u, H b = some u → ¬ Mut (some u) → b ≠ x := fun b u q nm z => by subst z; rw [q] at mu; exact nm mu
  refine ⟨fun b u q n _ _ => k b u (hb b n) q, fun b u q n _ _ => ⟨u.slots, k b u (hb b n) q⟩, fun b u q n _ => by rw [upd_ne (hx b n)]; exact n, fun b u q _ => ?_,
    fun b xs q => by rw [upd_ne (hm b _ q fun z => z)]; exact q, fun b u xs q => by rw [upd_ne (hm b _ q fun z => z)]; exact q, fun b ps q => ⟨#[], by rw [upd_ne (hm b _ q fun z => z), q]; simp⟩⟩
  by_cases hbe : b = e
  · subst hbe; exact heo
  · exact ⟨u, k b u hbe q⟩
theorem Un.mono (u : Un fs ex H H1 h h1) (hs : ∀ b ∈ fs, b ∈ fs') (hx : ∀ b ∈ ex, b ∈ ex') : Un fs' ex' H H1 h h1 :=
  ⟨fun b ob q n hb he => u.keep b ob q n (fun z => hb (hs b z)) fun z => he (hx b z), fun _ _ q n _ he => u.any q n fun z => he (hx _ z), fun b ob q n he => u.free b ob q n fun z => he (hx b z), fun b ob q he => u.there b ob q fun z => he (hx b z), u.tups, u.frzs, u.tbls⟩
end

/-! ### the heap without what is tracked -/
def trk (h : Heap) (H : Hp) : List Addr := (List.range h.objs.size).filter fun a => (H a).isSome
def hidT (h : Heap) (H : Hp) : Heap := PySem.W.hideAll h (trk h H)
theorem hidT_size (h : Heap) (H : Hp) : (hidT h H).objs.size = h.objs.size := PySem.W.hideAll_size _ _
theorem hidT_get {h : Heap} {H : Hp} {b : Addr} {o : Obj} (e : h.get? b = some o) (n : H b = none) : (hidT h H).get? b = some o :=
  PySem.W.hideAll_get _ e fun hm => by
    have q : (H b).isSome = true := (List.mem_filter.mp hm).2
    rw [n] at q; simp at q
theorem of_hidT {h : Heap} {H : Hp} {b : Addr} {o : Obj} (e : (hidT h H).get? b = some o) : h.get? b = some o ∧ H b = none := by
  have e' : h.get? b = some o := PySem.W.of_hideAll (trk h H) e
  refine ⟨e', ?_⟩
  cases q : H b with
  | none => rfl
  | some x =>
    have hm : b ∈ trk h H := List.mem_filter.mpr ⟨List.mem_range.mpr (Heap.lt_size e'), by simp [q]⟩
    have z : (hidT h H).get? b = none := PySem.W.hideAll_none (trk h H) hm
    rw [z] at e; cases e

/-! ### OpenK's ledger, filled with every new object but one -/
def allNews (g h : Heap) (L : Addr) : List (Addr × Obj) := (List.range h.objs.size).filterMap fun a => if a = L ∨ (g.get? a).isSome = true then none else (h.get? a).map fun o => (a, o)
def rest (g h : Heap) (L d : Addr) : List (Addr × Obj) := (allNews g h L).filter fun p => decide (p.1 ≠ d)
end L2

namespace L2
open PySem PySem.Spec PyProof.Rows

/-- the module's facts, over the base: the heap at the law's entry without what is tracked there -/
structure Mod (K : PySem.W.Frag) (mg : Str → Option Value) (base : Heap) : Prop where
  kin : K.In base
  glob : base.Ns mainGlobals mg
  blt : ∃ mb, base.Ns builtinsNs mb ∧ ∀ x : Str, x ≠ "__name__" → mb x = bootBuiltins x
  nolimit : base.NoLimit

/-- the context: a def's body (or a comprehension's block) running. base: fixed through the whole law; s₀, H₀: the entry; outer: the frames whose slots others may change (a def's callers); stack: all frames that run;
   ex: iterators that were made ahead of the entry and are walked here (a comprehension's); fn: the names whose cells were made at the entry (a def: all; a comprehension's block: its own); calm: not within an except suite; pn: pins that every state bears; xe: what is wanted of an exception that leaves the code -/
structure Cx where
  prog : Program
  w : World
  K : PySem.W.Frag
  mg : Str → Option Value
  base : Heap
  A : Around
  N : List Str
  s₀ : Shared
  H₀ : Hp
  env : Env
  outer : List Env
  stack : List Env
  ex : List Addr
  fn : Str → Bool
  calm : Bool
  pn : List (Addr × Obj)
  xe : Value → Shared → Prop
/-- the callers' frames -/
def frs (l : List Env) : List Addr := l.filterMap (·.frame)
abbrev Cx.fs (X : Cx) : List Addr := frs X.outer

def Vis (sc : Scope) (x : Str) : Prop := sc.names.lookup x = some .local ∨ sc.names.lookup x = some .cell ∨ sc.names.lookup x = some .free
def Loc (sc : Scope) (x : Str) : Prop := sc.names.lookup x = some .local ∨ sc.names.lookup x = some .cell
def Look (env : Env) (h : Heap) (m : Str → Option Value) (x : Str) (u : Value) : Prop :=
  (env.kindOf x = some .local ∧ m x = some u) ∨ ((env.kindOf x = some .cell ∨ env.kindOf x = some .free) ∧ ∃ c, env.cells.lookup x = some c ∧ h.IsCell c (some u))

structure Cx.Ok (X : Cx) : Prop where
  mod : Mod X.K X.mg X.base
  kind : X.env.scope.kind = .function
  glob : X.env.globals = mainGlobals
  blt : X.env.builtins = builtinsNs
  above : X.s₀.heap.objs.size ≤ X.env.locals
  inj : ∀ x y c, X.env.cells.lookup x = some c → X.env.cells.lookup y = some c → x = y
  has : ∀ x, (X.env.kindOf x = some .cell ∨ X.env.kindOf x = some .free) → ∃ c, X.env.cells.lookup x = some c
  cab : ∀ x c, X.fn x = true → X.env.cells.lookup x = some c → X.s₀.heap.objs.size ≤ c
  hd : X.calm = true → X.A.handled = none
  frames : X.A.frames = some X.stack
  stk : X.stack = X.outer ∨ (X.stack = X.env :: X.outer ∧ X.env.frame = some X.env.locals)
  exf : ∀ b ∈ X.ex, b ≠ X.env.locals ∧ ∀ x c, X.env.cells.lookup x = some c → c ≠ b
  bs : ∀ b o, X.base.get? b = some o → X.s₀.heap.get? b = some o ∧ X.H₀ b = none
  bsz : X.base.objs.size ≤ X.s₀.heap.objs.size
  noex : ∀ b o, X.base.get? b = some o → b ∉ X.ex
  exfs : ∀ b ∈ X.ex, b ∉ X.fs
  funs : X.s₀.heap.FunFrames X.base X.outer
  frf : ∀ b ∈ X.fs, X.H₀ b = none

structure Inv (X : Cx) (pins : List (Addr × Obj)) (σ : List (Option V)) (H : Hp) (s : Shared) : Prop where
  ok : X.Ok
  os : s.os = X.s₀.os
  bare : AllBare s.gens
  base : Un X.fs X.ex X.H₀ H X.s₀.heap s.heap
  loc : ∃ m, s.heap.Ns X.env.locals m ∧ ∀ (i : Nat) (x : Str) (v : V), X.N[i]? = some x → σ[i]? = some (some v) → Vis X.env.scope x → ∃ u, RelV v u ∧ Look X.env s.heap m x u
  cell : ∀ x c, X.env.cells.lookup x = some c → ∃ v, s.heap.IsCell c v
  free : H X.env.locals = none
  freeC : ∀ x c, X.env.cells.lookup x = some c → H c = none
  pin : ∀ p ∈ X.pn ++ pins, s.heap.get? p.1 = some p.2 ∧ H p.1 = none ∧ p.1 ≠ X.env.locals ∧ p.1 ∉ X.fs ∧ ∀ v, p.2.data ≠ .cell v
  hok : HOk X.prog X.w H s.heap
  len : σ.length = X.N.length

section
variable {X : Cx} {pins : List (Addr × Obj)} {σ : List (Option V)} {H H' : Hp} {s : Shared} {h' : Heap}

theorem Cx.Ok.nofr (ok : X.Ok) {b : Addr} {o : Obj} (e : X.base.get? b = some o) : b ∉ X.fs := fun hb => by
  have := (ok.funs.mem hb).1
  rw [e] at this; cases this
theorem Inv.bs (I : Inv X pins σ H s) : ∀ b o, X.base.get? b = some o → s.heap.get? b = some o ∧ H b = none := fun b o e =>
  ⟨I.base.keep b o (I.ok.bs b o e).1 (I.ok.bs b o e).2 (I.ok.nofr e) (I.ok.noex b o e), I.base.free b o (I.ok.bs b o e).1 (I.ok.bs b o e).2 (I.ok.noex b o e)⟩
theorem Inv.bk (I : Inv X pins σ H s) : ∀ b o, X.base.get? b = some o → s.heap.get? b = some o := fun b o e => (I.bs b o e).1
theorem Inv.mod (I : Inv X pins σ H s) : Mod X.K X.mg X.base := I.ok.mod
theorem Inv.kIn (I : Inv X pins σ H s) : X.K.In s.heap := I.ok.mod.kin.keeps I.bk
theorem Inv.nolimit (I : Inv X pins σ H s) : s.heap.NoLimit := I.ok.mod.nolimit.keeps I.bk
/-- the frame over the base: for OpenK's rules (K.In X.base is I.mod.kin) -/
theorem Inv.fr (I : Inv X pins σ H s) : ∃ m, Fr X.base X.env.locals s.heap m :=
  let ⟨m, hn, _⟩ := I.loc
  ⟨m, hn, I.bk, Nat.le_trans I.ok.bsz I.ok.above⟩
theorem Inv.lt (I : Inv X pins σ H s) : X.env.locals < s.heap.objs.size := let ⟨_, hn, _⟩ := I.loc; hn.lt
theorem Inv.sz (I : Inv X pins σ H s) : X.s₀.heap.objs.size ≤ s.heap.objs.size := Nat.le_trans I.ok.above (Nat.le_of_lt I.lt)
theorem Inv.nofs (I : Inv X pins σ H s) {a : Addr} (h : s.heap.objs.size ≤ a) : a ∉ X.fs := fun hb => by
  obtain ⟨_, o, ho, _⟩ := I.ok.funs.mem hb
  exact absurd (Nat.lt_of_lt_of_le (Heap.lt_size ho) (Nat.le_trans I.sz h)) (Nat.lt_irrefl _)
theorem Inv.cne (I : Inv X pins σ H s) : ∀ x c, X.env.cells.lookup x = some c → c ≠ X.env.locals := fun x c e z => by
  obtain ⟨v, o, ho, hd⟩ := I.cell x c e
  obtain ⟨m, ⟨o', es, ep, ho', hd', _⟩, _⟩ := I.loc
  rw [z, ho'] at ho; cases ho; rw [hd'] at hd; cases hd
theorem Inv.funs (I : Inv X pins σ H s) : s.heap.FunFrames X.base X.outer := by
  have all : ∀ (l : List Env), (∀ b ∈ frs l, b ∈ X.fs) → X.s₀.heap.FunFrames X.base l → s.heap.FunFrames X.base l := by
    intro l
    induction l with
    | nil => intro _ _; trivial
    | cons env r ih =>
      intro hs hl
      obtain ⟨hk, ⟨L, o, hf, hn, ho, hd⟩, hr⟩ := hl
      have hL : L ∈ X.fs := hs L (by unfold frs; rw [List.filterMap_cons, hf]; exact List.mem_cons_self)
      obtain ⟨sl, e⟩ := I.base.slot L o ho (I.ok.frf L hL) hL fun z => I.ok.exfs L z hL
      exact ⟨hk, ⟨L, _, hf, hn, e, hd⟩, ih (fun b hb => hs b (by unfold frs; rw [List.filterMap_cons, hf]; exact List.mem_cons_of_mem _ hb)) hr⟩
  exact all X.outer (fun _ hb => hb) I.ok.funs

/-- the frames that run, for a call -/
theorem Inv.stack (I : Inv X pins σ H s) : s.heap.FunFrames X.base X.stack := by
  rcases I.ok.stk with e | ⟨e, hf⟩
  · rw [e]; exact I.funs
  · rw [e]
    obtain ⟨m, hn, _⟩ := I.loc
    refine .cons (by rw [I.ok.kind]; decide) hf hn ?_ I.funs
    exact Heap.get?_none_of_le (Nat.le_trans I.ok.bsz I.ok.above)
theorem Inv.stkSub (I : Inv X pins σ H s) : ∀ b ∈ frs X.stack, b ∈ X.env.locals :: X.fs := fun b hb => by
  rcases I.ok.stk with e | ⟨e, hf⟩
  · rw [e] at hb; exact List.mem_cons_of_mem _ hb
  · rw [e] at hb
    unfold frs at hb
    rw [List.filterMap_cons, hf] at hb
    exact hb
theorem Inv.stkFree (I : Inv X pins σ H s) : ∀ b ∈ frs X.stack, H b = none := fun b hb => by
  rcases List.mem_cons.mp (I.stkSub b hb) with e | hb
  · rw [e]; exact I.free
  · obtain ⟨_, o, ho, _⟩ := I.ok.funs.mem hb
    exact I.base.free b o ho (I.ok.frf b hb) fun z => I.ok.exfs b z hb

/-- THE STEP: the untracked objects but the frame and the records at ch are kept (the callers' frames up to slots), the frame's map is kept, the new abstract heap is held -/
theorem Inv.step {g' : Array GenState} {t' : Nat} {d' : Drawn} {ch : List Addr} (I : Inv X pins σ H s)
    (hch : ∀ b ∈ ch, (b ∈ X.ex ∨ X.s₀.heap.objs.size ≤ b) ∧ b ≠ X.env.locals ∧ (∀ x c, X.env.cells.lookup x = some c → c ≠ b) ∧ ∀ p ∈ X.pn ++ pins, p.1 ≠ b)
    (keep : ∀ b o, b ≠ X.env.locals → b ∉ X.fs → b ∉ ch → s.heap.get? b = some o → H b = none → h'.get? b = some o)
    (slot : ∀ b o, b ≠ X.env.locals → b ∈ X.fs → b ∉ ch → s.heap.get? b = some o → H b = none → ∃ sl, h'.get? b = some { o with slots := sl }) (free : ∀ b o, b ∉ ch → s.heap.get? b = some o → H b = none → H' b = none)
    (there : ∀ b o, b ∉ ch → s.heap.get? b = some o → ∃ o', h'.get? b = some o')
    (tups : ∀ b xs, H b = some (.tup xs) → H' b = some (.tup xs)) (frzs : ∀ b o u, H b = some (.frz o u) → H' b = some (.frz o u)) (tbls : ∀ b ps, H b = some (.tbl ps) → ∃ more, H' b = some (.tbl (ps ++ more)))
    (ns : ∀ m, s.heap.Ns X.env.locals m → h'.Ns X.env.locals m) (hok : HOk X.prog X.w H' h') (hg : AllBare g') :
    Inv X pins σ H' { s with heap := h', gens := g', drawn := d', toks := t' } := by
  have neL : ∀ b o, X.s₀.heap.get? b = some o → b ≠ X.env.locals := fun b o e => Nat.ne_of_lt (Nat.lt_of_lt_of_le (Heap.lt_size e) I.ok.above)
  have neC : ∀ b o, X.s₀.heap.get? b = some o → b ∉ X.ex → b ∉ ch := fun b o e hx hb => by
    rcases (hch b hb).1 with z | z
    · exact hx z
    · exact absurd (Nat.lt_of_lt_of_le (Heap.lt_size e) z) (Nat.lt_irrefl _)
  have cellK : ∀ x c, X.env.cells.lookup x = some c → ∀ v, s.heap.IsCell c v → h'.IsCell c v := fun x c e v ⟨o, ho, hd⟩ => by
    have nch : c ∉ ch := fun z => (hch c z).2.2.1 x c e rfl
    by_cases hc : c ∈ X.fs
    · obtain ⟨sl, q⟩ := slot c o (I.cne x c e) hc nch ho (I.freeC x c e)
      exact ⟨_, q, hd⟩
    · exact ⟨o, keep c o (I.cne x c e) hc nch ho (I.freeC x c e), hd⟩
  refine ⟨I.ok, I.os, hg, ⟨fun b o e n hb hx => ?_, fun b o e n hb hx => ?_, fun b o e n hx => ?_, fun b o e hx => ?_, fun b xs e => tups b xs (I.base.tups b xs e), fun b o xs e => frzs b o xs (I.base.frzs b o xs e), fun b ps e => ?_⟩, ?_, fun x c e => ?_, ?_, fun x c e => ?_, fun p hp => ?_, hok, I.len⟩
  · exact keep b o (neL b o e) hb (neC b o e hx) (I.base.keep b o e n hb hx) (I.base.free b o e n hx)
  · obtain ⟨sl, e1⟩ := I.base.slot b o e n hb hx
    obtain ⟨sl', e2⟩ := slot b _ (neL b o e) hb (neC b o e hx) e1 (I.base.free b o e n hx)
    exact ⟨sl', e2⟩
  · obtain ⟨o', e1⟩ := I.base.there b o e hx
    exact free b o' (neC b o e hx) e1 (I.base.free b o e n hx)
  · obtain ⟨o', e1⟩ := I.base.there b o e hx
    exact there b o' (neC b o e hx) e1
  · obtain ⟨m1, e1⟩ := I.base.tbls b ps e
    obtain ⟨m2, e2⟩ := tbls b _ e1
    exact ⟨m1 ++ m2, by rw [e2, Array.append_assoc]⟩
  · obtain ⟨m, hn, hl⟩ := I.loc
    refine ⟨m, ns m hn, fun i x v e1 e2 e3 => ?_⟩
    obtain ⟨u, r, l⟩ := hl i x v e1 e2 e3
    refine ⟨u, r, ?_⟩
    rcases l with l | ⟨k, c, e, z⟩
    · exact .inl l
    · exact .inr ⟨k, c, e, cellK x c e _ z⟩
  · obtain ⟨v, z⟩ := I.cell x c e
    exact ⟨v, cellK x c e v z⟩
  · obtain ⟨m, ⟨o, _, _, ho, _⟩, _⟩ := I.loc
    exact free _ o (fun z => (hch _ z).2.1 rfl) ho I.free
  · obtain ⟨v, o, ho, hd⟩ := I.cell x c e
    exact free c o (fun z => (hch c z).2.2.1 x c e rfl) ho (I.freeC x c e)
  · obtain ⟨e, n, ne, nf, d⟩ := I.pin p hp
    have nch : p.1 ∉ ch := fun z => (hch p.1 z).2.2.2 p hp rfl
    exact ⟨keep p.1 p.2 ne nf nch e n, free p.1 p.2 nch e n, ne, nf, d⟩
/-- .. where the frame's own object is kept too -/
theorem Inv.un {t' : Nat} (I : Inv X pins σ H s) (u : Un X.fs [] H H' s.heap h') (hok : HOk X.prog X.w H' h') : Inv X pins σ H' { s with heap := h', toks := t' } := by
  obtain ⟨m, ⟨o, es, ep, ho, r⟩, _⟩ := id I.loc
  obtain ⟨sl, hL⟩ := u.any ho I.free (by simp)
  exact I.step (g' := s.gens) (d' := s.drawn) (ch := []) (fun _ z => nomatch z) (fun b o _ hb _ e n => u.keep b o e n hb (by simp)) (fun b o _ hb _ e n => u.slot b o e n hb (by simp)) (fun b o _ e n => u.free b o e n (by simp)) (fun b o _ e => u.there b o e (by simp)) u.tups u.frzs u.tbls (fun m' hm => by
    obtain ⟨o', es', ep', ho', r'⟩ := hm
    rw [ho] at ho'; cases ho'
    exact ⟨_, es', ep', hL, r'⟩) hok I.bare
/-- behind a call (or a comprehension's block): the slots of this frame may have changed too, the records at ch may have turned -/
theorem Inv.call {g' : Array GenState} {t' : Nat} {d' : Drawn} {ch : List Addr} (I : Inv X pins σ H s) (u : Un (frs X.stack) ch H H' s.heap h') (hok : HOk X.prog X.w H' h') (hg : AllBare g')
    (hch : ∀ b ∈ ch, (b ∈ X.ex ∨ X.s₀.heap.objs.size ≤ b) ∧ b ≠ X.env.locals ∧ (∀ x c, X.env.cells.lookup x = some c → c ≠ b) ∧ ∀ p ∈ X.pn ++ pins, p.1 ≠ b) :
    Inv X pins σ H' { s with heap := h', gens := g', drawn := d', toks := t' } := by
  obtain ⟨m, ⟨o, es, ep, ho, r⟩, _⟩ := id I.loc
  obtain ⟨sl, hL⟩ := u.any ho I.free fun z => (hch _ z).2.1 rfl
  exact I.step (ch := ch) hch (fun b o hL hb hc e n => u.keep b o e n (fun z => (List.mem_cons.mp (I.stkSub b z)).elim hL hb) hc) (fun b o _ _ hc e n => u.any e n hc) (fun b o hc e n => u.free b o e n hc) (fun b o hc e => u.there b o e hc) u.tups u.frzs u.tbls (fun m' hm => by
    obtain ⟨o', es', ep', ho', r'⟩ := hm
    rw [ho] at ho'; cases ho'
    exact ⟨_, es', ep', hL, r'⟩) hok hg
/-- an untracked record of ours (an iterator) has turned -/
theorem Inv.turned {t' : Nat} {it : Addr} (I : Inv X pins σ H s) (k : ∀ b o, b ≠ it → s.heap.get? b = some o → h'.get? b = some o) (hn : H it = none) (hL : it ≠ X.env.locals)
    (h1 : it ∈ X.ex ∨ X.s₀.heap.objs.size ≤ it) (h2 : ∀ x c, X.env.cells.lookup x = some c → c ≠ it) (h3 : ∀ p ∈ X.pn ++ pins, p.1 ≠ it) : Inv X pins σ H { s with heap := h', toks := t' } := by
  have nit : ∀ b u, H b = some u → b ≠ it := fun b u e z => by rw [z, hn] at e; cases e
  refine I.step (g' := s.gens) (d' := s.drawn) (ch := [it]) (fun b hb => ?_) (fun b o _ _ hc e _ => k b o (fun z => hc (by simp [z])) e) (fun b o _ _ hc e _ => ⟨o.slots, k b o (fun z => hc (by simp [z])) e⟩) (fun _ _ _ _ n => n)
    (fun b o hc e => ⟨o, k b o (fun z => hc (by simp [z])) e⟩) (fun _ _ e => e) (fun _ _ _ e => e) (fun b ps e => ⟨#[], by rw [e]; simp⟩) (fun m hm => ?_) (fun b u e => ?_) I.bare
  · have e : b = it := by simpa using hb
    subst e
    exact ⟨h1, hL, h2, h3⟩
  · obtain ⟨o, es, ep, ho, r⟩ := hm
    exact ⟨o, es, ep, k _ o (Ne.symm hL) ho, r⟩
  · refine (I.hok b u e).stay (fun c v hc q => k c v ?_ q) (fun _ q => q) fun _ _ q => q
    rcases hc with z | z
    · rw [z]; exact nit b u e
    · exact nit c _ z
theorem Inv.tok (I : Inv X pins σ H s) (t : Nat) : Inv X pins σ H { s with toks := t } := I.un (h' := s.heap) (t' := t) Un.refl I.hok
/-- all objects kept -/
theorem Inv.kept {t' : Nat} (I : Inv X pins σ H s) (k : ∀ b u, s.heap.get? b = some u → h'.get? b = some u) : Inv X pins σ H { s with heap := h', toks := t' } := I.un (Un.kept k) (I.hok.kept k)
/-- a new object laid and tracked -/
theorem Inv.laid {a : Addr} {o : HO} {t' : Nat} (I : Inv X pins σ H s) (k : ∀ b u, s.heap.get? b = some u → h'.get? b = some u) (hp : s.heap.objs.size ≤ a) (new : ObjOk X.prog X.w (upd H a o) h' a o) :
    Inv X pins σ (upd H a o) { s with heap := h', toks := t' } := I.un (Un.laid k hp (I.hok.fresh hp)) (I.hok.laid k hp new)
/-- an object written -/
theorem Inv.write {x e : Addr} {o : HO} {t' : Nat} (I : Inv X pins σ H s) (mu : Mut (H x)) (he : e = x ∨ H e = some (.own x)) (k : ∀ b u, b ≠ e → s.heap.get? b = some u → h'.get? b = some u) (heo : ∃ u, h'.get? e = some u)
    (new : ObjOk X.prog X.w (upd H x o) h' x o) : Inv X pins σ (upd H x o) { s with heap := h', toks := t' } := I.un (Un.write mu he k heo) (I.hok.write mu he k heo new)
/-- forgetting slots, pins -/
theorem Inv.weak {σ' : List (Option V)} (I : Inv X pins σ H s) (hl : σ'.length = σ.length) (w : ∀ (i : Nat) v, σ'[i]? = some (some v) → σ[i]? = some (some v)) : Inv X pins σ' H s :=
  ⟨I.ok, I.os, I.bare, I.base, let ⟨m, hn, hl'⟩ := I.loc; ⟨m, hn, fun i x v e1 e2 e3 => hl' i x v e1 (w i v e2) e3⟩, I.cell, I.free, I.freeC, I.pin, I.hok, hl.trans I.len⟩
theorem Inv.pins_of {pins' : List (Addr × Obj)} (I : Inv X pins σ H s) (h : ∀ p ∈ pins', s.heap.get? p.1 = some p.2 ∧ H p.1 = none ∧ p.1 ≠ X.env.locals ∧ p.1 ∉ X.fs ∧ ∀ v, p.2.data ≠ .cell v) : Inv X pins' σ H s :=
  ⟨I.ok, I.os, I.bare, I.base, I.loc, I.cell, I.free, I.freeC, fun p hp => (List.mem_append.mp hp).elim (fun z => I.pin p (List.mem_append_left _ z)) (h p), I.hok, I.len⟩

theorem nodup_ix {N : List Str} (hN : N.Nodup) {i j : Nat} {x : Str} (a : N[i]? = some x) (b : N[j]? = some x) : i = j := by
  obtain ⟨h1, e1⟩ := List.getElem?_eq_some_iff.mp a
  obtain ⟨h2, e2⟩ := List.getElem?_eq_some_iff.mp b
  exact (List.getElem_inj hN).mp (e1.trans e2.symm)

/-- a name is stored; what changed -/
theorem store_ok2 {M : Model} {A : Around} {E : Value → Shared → Prop} {i : Nat} {x : Str} {v : V} {u : Value} {Q : Unit → Shared → Prop} (I : Inv X pins σ H s) (hN : X.N.Nodup) (hi : X.N[i]? = some x) (hx : Loc X.env.scope x) (r : RelV v u)
    (h : ∀ s', Inv X pins (σ.set i (some v)) H s' → (∃ a, Heap.SameBut a s.heap s'.heap ∧ (a = X.env.locals ∨ X.env.cells.lookup x = some a)) → Q () s') (hf : X.fn x = true ∨ X.env.scope.names.lookup x = some .local := by first | exact .inl rfl | exact .inr rfl | assumption) : wpAny M A (storeName X.env x u) Q E s := by
  obtain ⟨m, hn, hl⟩ := id I.loc
  have hcls : (X.env.scope.kind == .class || (X.env.scope.kind == .module && X.env.locals != X.env.globals)) = false := by rw [I.ok.kind]; rfl
  have hiσ : i < σ.length := by rw [I.len]; exact (List.getElem?_eq_some_iff.mp hi).1
  have cne := I.cne
  have tracked : ∀ {a : Addr} {h' : Heap}, (∃ o, s.heap.get? a = some o ∧ H a = none) → Heap.SameBut a s.heap h' → HOk X.prog X.w H h' := fun {a h'} ha hs b ob e => by
    obtain ⟨_, _, hfree⟩ := ha
    refine (I.hok b ob e).stay (fun c w' hc q => (hs.2 c ?_).trans q) (fun _ q => q) fun _ _ q => q
    rintro rfl
    rcases hc with rfl | hc
    · rw [hfree] at e; cases e
    · rw [hfree] at hc; cases hc
  rcases hx with hk | hk
  · refine wpAny_storeName_local hk hn (fun h' hn' hs => ?_) hcls
    obtain ⟨oL, _, _, hoL, _⟩ := id hn
    refine h _ ⟨I.ok, I.os, I.bare, ⟨fun b o e n hb hx => ?_, fun b o e n hb hx => ?_, I.base.free, fun b o e hx => ?_, I.base.tups, I.base.frzs, I.base.tbls⟩, ⟨_, hn', fun j y v' e1 e2 e3 => ?_⟩, fun y c e => ?_, I.free, I.freeC, fun p hp => ?_, tracked ⟨oL, hoL, I.free⟩ hs, by simpa using I.len⟩ ⟨_, hs, .inl rfl⟩
    · exact (hs.2 b (Nat.ne_of_lt (Nat.lt_of_lt_of_le (Heap.lt_size e) I.ok.above))).trans (I.base.keep b o e n hb hx)
    · obtain ⟨sl, e1⟩ := I.base.slot b o e n hb hx
      exact ⟨sl, (hs.2 b (Nat.ne_of_lt (Nat.lt_of_lt_of_le (Heap.lt_size e) I.ok.above))).trans e1⟩
    · obtain ⟨o', e1⟩ := I.base.there b o e hx
      exact ⟨o', (hs.2 b (Nat.ne_of_lt (Nat.lt_of_lt_of_le (Heap.lt_size e) I.ok.above))).trans e1⟩
    · by_cases hj : j = i
      · subst hj
        rw [hi] at e1; cases e1
        rw [List.getElem?_set_self hiσ] at e2
        cases e2
        exact ⟨u, r, .inl ⟨hk, by simp⟩⟩
      · rw [List.getElem?_set_ne (Ne.symm hj)] at e2
        obtain ⟨u', r', q⟩ := hl j y v' e1 e2 e3
        refine ⟨u', r', ?_⟩
        rcases q with ⟨k, e⟩ | ⟨k, c, e, z⟩
        · refine .inl ⟨k, ?_⟩
          have : y ≠ x := fun e => hj (nodup_ix hN e1 (e ▸ hi))
          simp [this, e]
        · exact .inr ⟨k, c, e, z.sameBut hs (cne y c e)⟩
    · obtain ⟨w', z⟩ := I.cell y c e
      exact ⟨w', z.sameBut hs (cne y c e)⟩
    · obtain ⟨e, n, ne, nf, d⟩ := I.pin p hp
      exact ⟨(hs.2 p.1 ne).trans e, n, ne, nf, d⟩
  · have hfn : X.fn x = true := by
      rcases hf with z | z
      · exact z
      · rw [z] at hk; cases hk
    obtain ⟨c, hc⟩ := I.ok.has x (.inl hk)
    obtain ⟨w', z⟩ := I.cell x c hc
    refine wpAny_storeName_cell I.ok.kind hk hc z (fun h' hc' hs => ?_)
    obtain ⟨oc, hoc, hocd⟩ := id z
    refine h { s with heap := h' } ⟨I.ok, I.os, I.bare, ⟨fun b o e n hb hx => ?_, fun b o e n hb hx => ?_, I.base.free, fun b o e hx => ?_, I.base.tups, I.base.frzs, I.base.tbls⟩, ⟨m, hn.sameBut hs (Ne.symm (cne x c hc)), fun j y v' e1 e2 e3 => ?_⟩, fun y c' e => ?_, I.free, I.freeC, fun p hp => ?_, tracked ⟨oc, hoc, I.freeC x c hc⟩ hs, by simpa using I.len⟩ ⟨c, hs, .inr hc⟩
    · exact (hs.2 b (Nat.ne_of_lt (Nat.lt_of_lt_of_le (Heap.lt_size e) (I.ok.cab x c hfn hc)))).trans (I.base.keep b o e n hb hx)
    · obtain ⟨sl, e1⟩ := I.base.slot b o e n hb hx
      exact ⟨sl, (hs.2 b (Nat.ne_of_lt (Nat.lt_of_lt_of_le (Heap.lt_size e) (I.ok.cab x c hfn hc)))).trans e1⟩
    · obtain ⟨o', e1⟩ := I.base.there b o e hx
      exact ⟨o', (hs.2 b (Nat.ne_of_lt (Nat.lt_of_lt_of_le (Heap.lt_size e) (I.ok.cab x c hfn hc)))).trans e1⟩
    · by_cases hj : j = i
      · subst hj
        rw [hi] at e1; cases e1
        rw [List.getElem?_set_self hiσ] at e2
        cases e2
        exact ⟨u, r, .inr ⟨.inl hk, c, hc, hc'⟩⟩
      · rw [List.getElem?_set_ne (Ne.symm hj)] at e2
        obtain ⟨u', r', q⟩ := hl j y v' e1 e2 e3
        refine ⟨u', r', ?_⟩
        rcases q with q | ⟨k, c', e, z'⟩
        · exact .inl q
        · refine .inr ⟨k, c', e, z'.sameBut hs ?_⟩
          rintro rfl
          exact hj (nodup_ix hN e1 (I.ok.inj _ _ _ e hc ▸ hi))
    · by_cases hcc : c' = c
      · subst hcc; exact ⟨_, hc'⟩
      · obtain ⟨w2, z2⟩ := I.cell y c' e
        exact ⟨w2, z2.sameBut hs hcc⟩
    · obtain ⟨e, n, ne, nf, d⟩ := I.pin p hp
      refine ⟨(hs.2 p.1 ?_).trans e, n, ne, nf, d⟩
      intro q
      rw [q, hoc] at e
      have q' : oc = p.2 := Option.some.inj e
      exact d w' (by rw [← q']; exact hocd)
theorem store_ok {M : Model} {A : Around} {E : Value → Shared → Prop} {i : Nat} {x : Str} {v : V} {u : Value} {Q : Unit → Shared → Prop} (I : Inv X pins σ H s) (hN : X.N.Nodup) (hi : X.N[i]? = some x) (hx : Loc X.env.scope x) (r : RelV v u)
    (h : ∀ s', Inv X pins (σ.set i (some v)) H s' → Q () s') (hf : X.fn x = true ∨ X.env.scope.names.lookup x = some .local := by first | exact .inl rfl | exact .inr rfl | assumption) : wpAny M A (storeName X.env x u) Q E s :=
  store_ok2 I hN hi hx r (fun s' I' _ => h s' I') hf
/-- behind a call or a block, the state as it is -/
theorem Inv.call' {s' : Shared} {ch : List Addr} (I : Inv X pins σ H s) (ho : s'.os = s.os) (u : Un (frs X.stack) ch H H' s.heap s'.heap) (hok : HOk X.prog X.w H' s'.heap) (hg : AllBare s'.gens)
    (hch : ∀ b ∈ ch, (b ∈ X.ex ∨ X.s₀.heap.objs.size ≤ b) ∧ b ≠ X.env.locals ∧ (∀ x c, X.env.cells.lookup x = some c → c ≠ b) ∧ ∀ p ∈ X.pn ++ pins, p.1 ≠ b) : Inv X pins σ H' s' := by
  obtain ⟨h', g', d', t', o'⟩ := s'
  have e : o' = s.os := ho
  subst e
  exact I.call (g' := g') (t' := t') (d' := d') u hok hg hch
end

/-! ### the judgements -/
/-- an exception: its class, its own dict's address (where it has one), the abstract heap behind it -/
abbrev XK := Value → Option Addr → Hp → Prop
abbrev St := List (Option V)
abbrev VK := V → Hp → Prop
/-- an expression's reading; a test's; an argument list's -/
abbrev TE := St → Hp → VK → Prop
abbrev TT := St → Hp → (Bool → Hp → Prop) → Prop
abbrev TA := St → Hp → (List V → Hp → Prop) → Prop
/-- what is wanted behind a statement -/
structure Ends where
  nx : St → Hp → Prop
  rt : VK
  bk : St → Hp → Prop := fun _ _ => False
  ct : St → Hp → Prop := fun _ _ => False
abbrev TS := Ends → St → Hp → Prop

def EP (X : Cx) (pins : List (Addr × Obj)) (σ : St) (Q : VK) (u : Value) (s' : Shared) : Prop := ∃ v H', Inv X pins σ H' s' ∧ RelV v u ∧ Q v H'
def TP (X : Cx) (pins : List (Addr × Obj)) (σ : St) (Q : Bool → Hp → Prop) (b : Bool) (s' : Shared) : Prop := ∃ H', Inv X pins σ H' s' ∧ Q b H'
def AP (X : Cx) (pins : List (Addr × Obj)) (σ : St) (Q : List V → Hp → Prop) (us : List Value) (s' : Shared) : Prop := ∃ vs H', Inv X pins σ H' s' ∧ Vals vs us ∧ Q vs H'
def SP (X : Cx) (pins : List (Addr × Obj)) (D : Ends) (f : Flow) (s' : Shared) : Prop :=
  match f with
  | .next => ∃ σ' H', Inv X pins σ' H' s' ∧ D.nx σ' H'
  | .brk => ∃ σ' H', Inv X pins σ' H' s' ∧ D.bk σ' H'
  | .cont => ∃ σ' H', Inv X pins σ' H' s' ∧ D.ct σ' H'
  | .ret u => ∃ v σ' H', Inv X pins σ' H' s' ∧ RelV v u ∧ D.rt v H'

def PE (X : Cx) (e : Expr) (t : TE) : Prop :=
  ∀ (pins : List (Addr × Obj)) (s : Shared) (σ : St) (H : Hp) (Q : VK), Inv X pins σ H s → t σ H Q → wpAny (model X.prog X.w) X.A (eval e X.env) (EP X pins σ Q) X.xe s
def PT (X : Cx) (e : Expr) (t : TT) : Prop :=
  ∀ (pins : List (Addr × Obj)) (s : Shared) (σ : St) (H : Hp) (Q : Bool → Hp → Prop), Inv X pins σ H s → t σ H Q → wpAny (model X.prog X.w) X.A (isTrue e X.env (eval e X.env)) (TP X pins σ Q) X.xe s
/-- a test whatever its 'whole' is (and, or) -/
def PW (X : Cx) (e : Expr) (t : TT) : Prop :=
  ∀ (whole : Sem Value) (pins : List (Addr × Obj)) (s : Shared) (σ : St) (H : Hp) (Q : Bool → Hp → Prop), Inv X pins σ H s → t σ H Q → wpAny (model X.prog X.w) X.A (isTrue e X.env whole) (TP X pins σ Q) X.xe s
theorem PW.pt {X : Cx} {e : Expr} {t : TT} (h : PW X e t) : PT X e t := h _
/-- an argument list (no star), from the left -/
def PA (X : Cx) (es : List Expr) (t : TA) : Prop :=
  ∀ (pos : Pos) (pins : List (Addr × Obj)) (s : Shared) (σ : St) (H : Hp) (Q : List V → Hp → Prop), Inv X pins σ H s → t σ H Q → wpAny (model X.prog X.w) X.A (spliced (backTo pos (starEach es X.env))) (AP X pins σ Q) X.xe s
def PS (X : Cx) (st : Stmt) (t : TS) : Prop :=
  ∀ (pins : List (Addr × Obj)) (s : Shared) (σ : St) (H : Hp) (D : Ends), Inv X pins σ H s → t D σ H → wpAny (model X.prog X.w) X.A (exec st X.env) (SP X pins D) X.xe s
def PSs (X : Cx) (st : List Stmt) (t : TS) : Prop :=
  ∀ (pins : List (Addr × Obj)) (s : Shared) (σ : St) (H : Hp) (D : Ends), Inv X pins σ H s → t D σ H → wpAny (model X.prog X.w) X.A (execs st X.env) (SP X pins D) X.xe s
/-- weaken the end -/
theorem thn {α : Type} {t : Sem α} {Q Q' : α → Shared → Prop} {M : Model} {A : Around} {E : Value → Shared → Prop} {s : Shared} (h : wpAny M A t Q E s) (hQ : ∀ a s, Q a s → Q' a s) : wpAny M A t Q' E s := wpAny_mono h hQ fun _ _ x => x
end L2

namespace L2
open PySem PySem.Spec PyProof.Rows
section
variable {X : Cx}

/-- two expressions in a row -/
theorem bin {a b : Expr} {ta tb : TE} (ha : PE X a ta) (hb : PE X b tb) {pins : List (Addr × Obj)} {s : Shared} {σ : St} {H : Hp} {R : V → V → Hp → Prop} (I : Inv X pins σ H s) (h : ta σ H fun x H1 => tb σ H1 fun y H2 => R x y H2)
    {α : Type} {Q : α → Shared → Prop} {f : Value → Value → Sem α}
    (hf : ∀ v u s2 x y H2, Inv X pins σ H2 s2 → RelV x v → RelV y u → R x y H2 → wpAny (model X.prog X.w) X.A (f v u) Q X.xe s2) :
    wpAny (model X.prog X.w) X.A (eval a X.env) (fun v s₁ => wpAny (model X.prog X.w) X.A (eval b X.env) (fun u s₂ => wpAny (model X.prog X.w) X.A (f v u) Q X.xe s₂) X.xe s₁) X.xe s := by
  refine thn (ha pins s σ H _ I h) fun v s1 ⟨x, H1, I1, r1, q1⟩ => ?_
  refine thn (hb pins s1 σ H1 _ I1 q1) fun u s2 ⟨y, H2, I2, r2, q2⟩ => ?_
  exact hf v u s2 x y H2 I2 r1 r2 q2

/-! ### names and constants -/
def tVar (i : Nat) : TE := fun σ H Q => ∃ v, σ[i]? = some (some v) ∧ Q v H
def tC (v : V) : TE := fun _ H Q => Q v H
theorem pe_var {i : Nat} {x : Str} {pos : Pos} (hN : X.N[i]? = some x) (hv : Vis X.env.scope x) (hd : (x == ("__debug__" : Str)) = false := by decide) (hcd : (x == ("__classdict__" : Str)) = false := by decide) : PE X (.Name x pos) (tVar i) := by
  intro pins s σ H Q I h
  obtain ⟨v, e, h⟩ := h
  obtain ⟨m, hn, hl⟩ := I.loc
  obtain ⟨u, r, l⟩ := hl i x v hN e hv
  have fin : EP X pins σ Q u s := ⟨v, H, I, r, h⟩
  rcases l with ⟨hk, hm⟩ | ⟨hk, c, hc, hcell⟩
  · exact wpAny_Name (wpAny_loadName_local I.ok.kind hk hn hm fin) hd
  · rcases hk with hk | hk
    · exact wpAny_Name (wpAny_loadName_cell I.ok.kind hk hc hcell fin) hd
    · exact wpAny_Name (wpAny_loadName_free I.ok.kind hk hc hcell fin hcd) hd
theorem pe_int {i j pos} : PE X (.Constant (.int i) j pos) (tC (.int i)) := fun _ _ _ H _ I h => wpAny_Constant_int ⟨.int i, H, I.tok _, ⟨_, rfl⟩, h⟩
theorem pe_bl {b j pos} : PE X (.Constant (.bool b) j pos) (tC (.bl b)) := fun _ _ _ H _ I h => Constant_bool ⟨.bl b, H, I, rfl, h⟩
theorem pe_str {x j pos} : PE X (.Constant (.str x) j pos) (tC (.str x)) := fun _ _ _ H _ I h => Calls.Constant_str ⟨.str x, H, I.tok _, ⟨_, rfl⟩, h⟩

/-- a global name of the def -/
def Gl (X : Cx) (x : Str) : Prop := X.env.kindOf x = some .globalImplicit
theorem ld_glob {E : Value → Shared → Prop} {pins : List (Addr × Obj)} {s : Shared} {σ : St} {H : Hp} {x : Str} {u : Value} {pos : Pos} {Q : Value → Shared → Prop} (I : Inv X pins σ H s) (hg : Gl X x) (hm : X.mg x = some u) (h : Q u s)
    (hd : (x == ("__debug__" : Str)) = false := by decide) : wpAny (model X.prog X.w) X.A (eval (.Name x pos) X.env) Q E s :=
  Calls.Name_function_global I.ok.kind hg (Calls.loadGlobal_global (by rw [I.ok.glob]; exact I.mod.glob.keeps I.bk) hm h) hd
theorem ld_blt {E : Value → Shared → Prop} {pins : List (Addr × Obj)} {s : Shared} {σ : St} {H : Hp} {x : Str} {u : Value} {pos : Pos} {Q : Value → Shared → Prop} (I : Inv X pins σ H s) (hg : Gl X x) (hm : X.mg x = none) (hv : bootBuiltins x = some u) (h : Q u s)
    (hn : x ≠ "__name__" := by decide) (hd : (x == ("__debug__" : Str)) = false := by decide) : wpAny (model X.prog X.w) X.A (eval (.Name x pos) X.env) Q E s := by
  obtain ⟨mb, h1, h2⟩ := I.mod.blt
  exact Calls.Name_function_global I.ok.kind hg (Calls.loadGlobal_builtin (by rw [I.ok.glob]; exact I.mod.glob.keeps I.bk) hm (by rw [I.ok.blt]; exact h1.keeps I.bk) ((h2 x hn).trans hv) h) hd
theorem pe_bltn {x : Str} {v : V} {u : Value} {pos : Pos} (hg : Gl X x) (hm : X.mg x = none) (hv : bootBuiltins x = some u) (r : RelV v u) (hn : x ≠ "__name__" := by decide) (hd : (x == ("__debug__" : Str)) = false := by decide) : PE X (.Name x pos) (tC v) :=
  fun _ _ _ H _ I h => ld_blt I hg hm hv ⟨v, H, I, r, h⟩ hn hd

/-! ### arithmetic -/
/-- two ints -/
def t2I (ta tb : TE) (k : Int → Int → Hp → Prop) : St → Hp → Prop := fun σ H => ta σ H fun x H1 => tb σ H1 fun y H2 => ∃ i j, x = .int i ∧ y = .int j ∧ k i j H2
def tAdd (ta tb : TE) : TE := fun σ H Q => t2I ta tb (fun i j H2 => Q (.int (i + j)) H2) σ H
def tSub (ta tb : TE) : TE := fun σ H Q => t2I ta tb (fun i j H2 => Q (.int (i - j)) H2) σ H
/-- the left factor below 2^64 -/
def tMul (ta tb : TE) : TE := fun σ H Q => t2I ta tb (fun i j H2 => (-(2 ^ 64) < i ∧ i < 2 ^ 64) ∧ Q (.int (i * j)) H2) σ H
variable {a b : Expr} {ta tb : TE} {pos : Pos}
/-! ### comparisons -/
def PC (X : Cx) (op : CmpOp) (a b : Expr) (t : TE) : Prop :=
  ∀ (pins : List (Addr × Obj)) (s : Shared) (σ : St) (H : Hp) (Q : VK), Inv X pins σ H s → t σ H Q →
    wpAny (model X.prog X.w) X.A (eval a X.env) (fun v s₁ => wpAny (model X.prog X.w) X.A (eval b X.env) (fun u s₂ => wpAny (model X.prog X.w) X.A (compareOp op v u) (EP X pins σ Q) X.xe s₂) X.xe s₁) X.xe s
theorem nobehind (b : Expr) {op : CmpOp} (h : op ≠ .In) (h2 : op ≠ .NotIn) : behindInMarks op b = false := by
  have e1 : (op == CmpOp.In) = false := by cases op <;> first | rfl | exact absurd rfl h
  have e2 : (op == CmpOp.NotIn) = false := by cases op <;> first | rfl | exact absurd rfl h2
  cases b <;> simp [behindInMarks, e1, e2]
def tCmp (p : Int → Int → Bool) (ta tb : TE) : TE := fun σ H Q => t2I ta tb (fun i j H2 => Q (.bl (p i j)) H2) σ H
abbrev tLt : TE → TE → TE := tCmp fun i j => decide (i < j)
abbrev tLe : TE → TE → TE := tCmp fun i j => decide (i ≤ j)
abbrev tGt : TE → TE → TE := tCmp fun i j => decide (j < i)
abbrev tGe : TE → TE → TE := tCmp fun i j => decide (j ≤ i)
abbrev tEqI : TE → TE → TE := tCmp fun i j => decide (i = j)
abbrev tNeI : TE → TE → TE := tCmp fun i j => !decide (i = j)
/-- is None -/
def tIsN (ta : TE) : TE := fun σ H Q => ta σ H fun x H1 => Q (.bl (decide (x = .non))) H1
def tNotN (ta : TE) : TE := fun σ H Q => ta σ H fun x H1 => Q (.bl (!decide (x = .non))) H1
/-- a comparison as a value, as a test -/
def tB (t : TE) : TT := fun σ H Q => t σ H fun x H1 => ∃ c, x = .bl c ∧ Q c H1
theorem pe_cmp {op : CmpOp} {t : TE} (h : PC X op a b t) (h1 : behindInMarks op b = false := by first | exact nobehind _ (by decide) (by decide) | rfl) : PE X (.Compare a [op] [b] pos) t := fun pins s σ H Q I hw => wpAny_Compare1 (h pins s σ H Q I hw) h1
theorem pt_cmp {op : CmpOp} {t : TE} (h : PC X op a b t) (h1 : behindInMarks op b = false := by first | exact nobehind _ (by decide) (by decide) | rfl) : PT X (.Compare a [op] [b] pos) (tB t) := by
  intro pins s σ H Q I hw
  refine wpAny_isTrue_Compare1 (thn (h pins s σ H _ I hw) fun v s1 h1 => thn h1 fun u s2 h2 => thn h2 fun c s3 ⟨x, H1, I1, r1, q1⟩ => ?_) h1
  obtain ⟨d, rfl, q⟩ := q1
  cases r1
  exact wpAny_truthy_bool ⟨H1, I1, q⟩
/-- an expression whose value is a bool, as a test -/
theorem pt_val {e : Expr} {t : TE} (h : PE X e t) (he : ∀ whole, isTrue e X.env whole = (do let v ← whole; standAt e.pos; holding [v] (truthy v)) := by intro _; rfl) : PT X e (tB t) := by
  intro pins s σ H Q I hw
  refine isTrue_plain (thn (h pins s σ H _ I hw) fun v s1 ⟨x, H1, I1, r1, q1⟩ => ?_) (he _)
  obtain ⟨d, rfl, q⟩ := q1
  cases r1
  exact wpAny_truthy_bool ⟨H1, I1, q⟩

/-! ### and, or, not -/
variable {tA tB' : TT} {rest : List Expr}
def tAnd (t u : TT) : TT := fun σ H Q => t σ H fun c H1 => if c = true then u σ H1 Q else Q false H1
def tOr (t u : TT) : TT := fun σ H Q => t σ H fun c H1 => if c = true then Q true H1 else u σ H1 Q
def tNot (t : TT) : TT := fun σ H Q => t σ H fun c H1 => Q (!c) H1
theorem pw_and1 (ha : PT X a tA) : PW X (.BoolOp .And [a] pos) tA := by
  intro wh pins s σ H Q I h
  refine isTrue_and (thn (ha pins s σ H Q I h) fun c s1 e => ?_)
  cases c with
  | true => exact isTrue_and_nil e
  | false => exact e
theorem pw_or1 (ha : PT X a tA) : PW X (.BoolOp .Or [a] pos) tA := by
  intro wh pins s σ H Q I h
  refine isTrue_or (thn (ha pins s σ H Q I h) fun c s1 e => ?_)
  cases c with
  | false => exact isTrue_or_nil e
  | true => exact e
theorem pw_and (ha : PT X a tA) (hb : PW X (.BoolOp .And (b :: rest) pos) tB') : PW X (.BoolOp .And (a :: b :: rest) pos) (tAnd tA tB') := by
  intro wh pins s σ H Q I h
  refine isTrue_and (thn (ha pins s σ H _ I h) fun c s1 ⟨H1, I1, q1⟩ => ?_)
  cases c with
  | true => exact hb wh pins s1 σ H1 Q I1 q1
  | false => exact ⟨H1, I1, q1⟩
theorem pw_or (ha : PT X a tA) (hb : PW X (.BoolOp .Or (b :: rest) pos) tB') : PW X (.BoolOp .Or (a :: b :: rest) pos) (tOr tA tB') := by
  intro wh pins s σ H Q I h
  refine isTrue_or (thn (ha pins s σ H _ I h) fun c s1 ⟨H1, I1, q1⟩ => ?_)
  cases c with
  | true => exact ⟨H1, I1, q1⟩
  | false => exact hb wh pins s1 σ H1 Q I1 q1
theorem pt_not (ha : PT X a tA) : PT X (.UnaryOp .Not a pos) (tNot tA) := by
  intro pins s σ H Q I h
  exact isTrue_not (ha pins s σ H (fun c H1 => Q (!c) H1) I h)
/-- .. as values (bools) -/
def tAndV (ta tb : TE) : TE := fun σ H Q => ta σ H fun x H1 => ∃ c, x = .bl c ∧ if c = true then tb σ H1 Q else Q (.bl false) H1
def tOrV (ta tb : TE) : TE := fun σ H Q => ta σ H fun x H1 => ∃ c, x = .bl c ∧ if c = true then Q (.bl true) H1 else tb σ H1 Q
def tNotV (ta : TE) : TE := fun σ H Q => ta σ H fun x H1 => ∃ c, x = .bl c ∧ Q (.bl (!c)) H1
/-- a if t else b -/
def tIf (t : TT) (ta tb : TE) : TE := fun σ H Q => t σ H fun c H1 => if c = true then ta σ H1 Q else tb σ H1 Q
end
end L2

namespace L2
open PySem PySem.Spec PyProof.Rows

/-! ### a list, a tuple that is read: tracked, frozen, or an object of the module -/
def SqL (K : PySem.W.Frag) (H : Hp) (a : Addr) (xs : List V) : Prop :=
  Rd H a (.lst xs) ∨
    ∃ (o : Obj) (its : Array Value) (n : Nat), K.lookup a = some o ∧ o.cls = .type "list" ∧ o.dict = none ∧ o.data = .seq its n ∧ its.size ≤ sizeLine ∧ Vals xs its.toList
def SqT (K : PySem.W.Frag) (H : Hp) (a : Addr) (xs : List V) : Prop :=
  Rd H a (.tup xs) ∨
    ∃ (o : Obj) (its : Array Value) (n : Nat), K.lookup a = some o ∧ o.cls = .type "tuple" ∧ o.data = .seq its n ∧ its.size ≤ sizeLine ∧ Vals xs its.toList
def absV : Value → Option V
  | .none => some .non
  | .bool b => some (.bl b)
  | .int i _ => some (.int i)
  | .str x _ => some (.str x)
  | .bytes b _ => some (.byt b)
  | .float b _ => some (.flt b)
  | .ref a => some (.ref a)
  | .type n => some (.ty n)
  | _ => none
theorem RelV.abs {x : V} {u : Value} (r : RelV x u) : absV u = some x := by
  cases x with
  | non => cases r; rfl
  | bl _ => cases r; rfl
  | int _ => obtain ⟨t, rfl⟩ := r; rfl
  | str _ => obtain ⟨t, rfl⟩ := r; rfl
  | byt _ => obtain ⟨t, rfl⟩ := r; rfl
  | flt _ => obtain ⟨t, rfl⟩ := r; rfl
  | ref _ => cases r; rfl
  | ty _ => cases r; rfl
theorem RelV.inj {x y : V} {u : Value} (r : RelV x u) (q : RelV y u) : x = y := Option.some.inj (r.abs.symm.trans q.abs)
theorem Vals.inj : ∀ {xs ys : List V} {us : List Value}, Vals xs us → Vals ys us → xs = ys
  | _, _, _, .nil, .nil => rfl
  | _, _, _, .cons r t, .cons r' t' => by rw [r.inj r', Vals.inj t t']
section
variable {X : Cx} {pins : List (Addr × Obj)} {σ : St} {H : Hp} {s : Shared} {a : Addr} {xs ys : List V}
theorem SqL.of {K : PySem.W.Frag} (h : H a = some (.lst xs)) : SqL K H a xs := .inl (.inl h)
theorem SqT.of {K : PySem.W.Frag} (h : H a = some (.tup xs)) : SqT K H a xs := .inl (.inl h)
theorem Inv.list (I : Inv X pins σ H s) (h : SqL X.K H a xs) : ∃ its : List Value, Vals xs its ∧ PlainL s.heap a its.toArray ∧ xs.length ≤ sizeLine := by
  rcases h with h | ⟨o, its, n, hk, hc, hd, hs, hz, r⟩
  · obtain ⟨z, its, n, r, e⟩ := h.ok I.hok
    exact ⟨its, r, ⟨_, n, e, rfl, rfl, rfl⟩, z⟩
  · refine ⟨its.toList, r, ⟨o, n, I.kIn a o hk, hc, hd, by simpa using hs⟩, ?_⟩
    have e := r.length
    simp only [Array.length_toList] at e
    omega
theorem Inv.tuple (I : Inv X pins σ H s) (h : SqT X.K H a xs) : ∃ its : List Value, Vals xs its ∧ IsTup s.heap a its.toArray ∧ xs.length ≤ sizeLine := by
  rcases h with h | ⟨o, its, n, hk, hc, hs, hz, r⟩
  · obtain ⟨z, its, r, p⟩ := h.ok I.hok
    exact ⟨its, r, p, z⟩
  · refine ⟨its.toList, r, ⟨o, I.kIn a o hk, hc, n, by simpa using hs⟩, ?_⟩
    have e := r.length
    simp only [Array.length_toList] at e
    omega
theorem Inv.list_inj (I : Inv X pins σ H s) (h : SqL X.K H a xs) (h' : SqL X.K H a ys) : xs = ys := by
  obtain ⟨its, r, ⟨o, n, e, _, _, d⟩, _⟩ := I.list h
  obtain ⟨its', r', ⟨o', n', e', _, _, d'⟩, _⟩ := I.list h'
  rw [e] at e'; cases e'
  rw [d] at d'
  injection d' with d1 _
  have : its = its' := by simpa using congrArg Array.toList d1
  subst this
  exact r.inj r'
theorem Inv.tuple_inj (I : Inv X pins σ H s) (h : SqT X.K H a xs) (h' : SqT X.K H a ys) : xs = ys := by
  obtain ⟨its, r, ⟨o, e, _, n, d⟩, _⟩ := I.tuple h
  obtain ⟨its', r', ⟨o', e', _, n', d'⟩, _⟩ := I.tuple h'
  rw [e] at e'; cases e'
  rw [d] at d'
  injection d' with d1 _
  have : its = its' := by simpa using congrArg Array.toList d1
  subst this
  exact r.inj r'
end

/-! ### another wish about exceptions -/
abbrev Cx.wish (X : Cx) (E : Value → Shared → Prop) : Cx := { X with xe := E }
/-- no exception leaves -/
abbrev Cx.nox (X : Cx) : Cx := X.wish fun _ _ => False
theorem Cx.Ok.wish {X : Cx} (ok : X.Ok) (E : Value → Shared → Prop) : (X.wish E).Ok :=
  ⟨ok.mod, ok.kind, ok.glob, ok.blt, ok.above, ok.inj, ok.has, ok.cab, ok.hd, ok.frames, ok.stk, ok.exf, ok.bs, ok.bsz, ok.noex, ok.exfs, ok.funs, ok.frf⟩
theorem Cx.Ok.unwish {X : Cx} {E : Value → Shared → Prop} (ok : (X.wish E).Ok) : X.Ok :=
  ⟨ok.mod, ok.kind, ok.glob, ok.blt, ok.above, ok.inj, ok.has, ok.cab, ok.hd, ok.frames, ok.stk, ok.exf, ok.bs, ok.bsz, ok.noex, ok.exfs, ok.funs, ok.frf⟩
section
variable {X : Cx} {pins : List (Addr × Obj)} {σ : St} {H : Hp} {s : Shared} {E : Value → Shared → Prop}
theorem Inv.wish (I : Inv X pins σ H s) (E : Value → Shared → Prop) : Inv (X.wish E) pins σ H s := ⟨I.ok.wish E, I.os, I.bare, I.base, I.loc, I.cell, I.free, I.freeC, I.pin, I.hok, I.len⟩
theorem Inv.unwish (I : Inv (X.wish E) pins σ H s) : Inv X pins σ H s := ⟨I.ok.unwish, I.os, I.bare, I.base, I.loc, I.cell, I.free, I.freeC, I.pin, I.hok, I.len⟩
theorem SP.unwish {D : Ends} {f : Flow} {s' : Shared} (h : SP (X.wish E) pins D f s') : SP X pins D f s' := by
  cases f with
  | next => obtain ⟨σ', H', I, q⟩ := h; exact ⟨σ', H', I.unwish, q⟩
  | brk => obtain ⟨σ', H', I, q⟩ := h; exact ⟨σ', H', I.unwish, q⟩
  | cont => obtain ⟨σ', H', I, q⟩ := h; exact ⟨σ', H', I.unwish, q⟩
  | ret u => obtain ⟨v, σ', H', I, r, q⟩ := h; exact ⟨v, σ', H', I.unwish, r, q⟩
theorem PE.nox {e : Expr} {t : TE} (h : PE X.nox e t) : PE X e t := fun pins s σ H Q I hw =>
  wpAny_mono (h pins s σ H Q (I.wish _) hw) (fun _ _ ⟨v, H', I', r, q⟩ => ⟨v, H', I'.unwish, r, q⟩) fun _ _ z => False.elim z
theorem PT.nox {e : Expr} {t : TT} (h : PT X.nox e t) : PT X e t := fun pins s σ H Q I hw =>
  wpAny_mono (h pins s σ H Q (I.wish _) hw) (fun _ _ ⟨H', I', q⟩ => ⟨H', I'.unwish, q⟩) fun _ _ z => False.elim z
theorem PSs.nox {st : List Stmt} {t : TS} (h : PSs X.nox st t) : PSs X st t := fun pins s σ H D I hw =>
  wpAny_mono (h pins s σ H D (I.wish _) hw) (fun _ _ q => q.unwish) fun _ _ z => False.elim z
end

/-! ### blocks and small statements -/
section
variable {X : Cx} {st : Stmt} {rest : List Stmt} {t u : TS} {e : Expr} {te : TE} {pos : Pos}
def tNext : TS := fun D σ H => D.nx σ H
def tSeq (t u : TS) : TS := fun D σ H => t { D with nx := u D } σ H
theorem pss_nil : PSs X [] tNext := fun _ _ σ H _ I h => wpAny_execs_nil ⟨σ, H, I, h⟩
theorem pss_cons (h1 : PS X st t) (h2 : PSs X rest u) : PSs X (st :: rest) (tSeq t u) := by
  intro pins s σ H D I h
  refine wpAny_execs_cons (thn (h1 pins s σ H { D with nx := u D } I h) fun f s1 q => ?_)
  cases f with
  | next =>
    obtain ⟨σ', H', I', q⟩ := q
    exact h2 pins s1 σ' H' D I' q
  | ret v => exact q
  | brk => exact q
  | cont => exact q
theorem pss_one (h1 : PS X st t) : PSs X [st] t := by
  intro pins s σ H D I h
  refine wpAny_execs_cons (thn (h1 pins s σ H D I h) fun f s1 q => ?_)
  cases f with
  | next => exact wpAny_execs_nil q
  | ret v => exact q
  | brk => exact q
  | cont => exact q
def tBreak : TS := fun D σ H => D.bk σ H
def tCont : TS := fun D σ H => D.ct σ H
/-- in a def's body nothing is shown -/
theorem Inv.quiet {pins : List (Addr × Obj)} {σ : St} {H : Hp} {s : Shared} (I : Inv X pins σ H s) : interactive X.env = false := by simp [interactive, I.ok.kind]
/-- an expression whose value is dropped -/
def tDrop (te : TE) : TS := fun D σ H => te σ H fun _ H1 => D.nx σ H1
theorem ps_expr (he : PE X e te) (hs : swapsWith e none pos.line X.env = pure false := by rfl) : PS X (.Expr e pos) (tDrop te) := by
  intro pins s σ H D I h
  exact wpAny_Expr_any (thn (he pins s σ H _ I h) fun v s1 ⟨x, H1, I1, r1, q1⟩ => ⟨σ, H1, I1, q1⟩) I.quiet hs
def tRet (te : TE) : TS := fun D σ H => te σ H D.rt
theorem ps_ret (he : PE X e te) : PS X (.Return (some e) pos) (tRet te) := by
  intro pins s σ H D I h
  exact wpAny_Return_some (thn (he pins s σ H _ I h) fun v s1 ⟨x, H1, I1, r1, q1⟩ => ⟨x, σ, H1, I1, r1, q1⟩)
def tRetN : TS := fun D _ H => D.rt .non H
def tIfS (c : TT) (t u : TS) : TS := fun D σ H => c σ H fun b H1 => if b = true then t D σ H1 else u D σ H1
theorem ps_if {c : Expr} {a b : List Stmt} {tc : TT} (hc : PT X c tc) (ha : PSs X a t) (hb : PSs X b u) : PS X (.If c a b pos) (tIfS tc t u) := by
  intro pins s σ H D I h
  refine wpAny_If (thn (hc pins s σ H _ I h) fun d s1 ⟨H1, I1, q1⟩ => ?_)
  cases d with
  | true => exact ha pins s1 σ H1 D I1 q1
  | false => exact hb pins s1 σ H1 D I1 q1
/-- code that the proof never comes to -/
def tNever : TS := fun _ _ _ => False
theorem ps_never : PS X st tNever := fun _ _ _ _ _ _ h => h.elim
end

/-! ### targets -/
abbrev TG := V → St → Hp → (St → Hp → Prop) → Prop
abbrev TGs := List V → St → Hp → (St → Hp → Prop) → Prop
def PG (X : Cx) (target : Expr) (t : TG) : Prop :=
  ∀ (pins : List (Addr × Obj)) (s : Shared) (σ : St) (H : Hp) (v : V) (u : Value) (Q : St → Hp → Prop), Inv X pins σ H s → RelV v u → t v σ H Q →
    wpAny (model X.prog X.w) X.A (assign target X.env u) (fun _ s' => ∃ σ' H', Inv X pins σ' H' s' ∧ Q σ' H') X.xe s
/-- several targets, one after another -/
def PGs (X : Cx) (ts : List Expr) (t : TGs) : Prop :=
  ∀ (pins : List (Addr × Obj)) (s : Shared) (σ : St) (H : Hp) (vs : List V) (us : List Value) (Q : St → Hp → Prop), Inv X pins σ H s → Vals vs us → t vs σ H Q →
    wpAny (model X.prog X.w) X.A (assignInOrder ((assignEach ts X.env).map (·.2)) us) (fun _ s' => ∃ σ' H', Inv X pins σ' H' s' ∧ Q σ' H') X.xe s
/-- o[i] = v, by values -/
abbrev TSet := V → V → V → Hp → (Hp → Prop) → Prop
def PSet (X : Cx) (t : TSet) : Prop :=
  ∀ (pins : List (Addr × Obj)) (s : Shared) (σ : St) (H : Hp) (o i v : V) (ov iv u : Value) (Q : Hp → Prop), Inv X pins σ H s → RelV o ov → RelV i iv → RelV v u → t o i v H Q →
    wpAny (model X.prog X.w) X.A (setItem ov iv u) (fun _ s' => ∃ H', Inv X pins σ H' s' ∧ Q H') X.xe s
/-- a op= b, by values -/
abbrev TIp := V → V → Hp → VK → Prop
def PIp (X : Cx) (op : Operator) (t : TIp) : Prop :=
  ∀ (pins : List (Addr × Obj)) (s : Shared) (σ : St) (H : Hp) (x y : V) (v u : Value) (Q : VK), Inv X pins σ H s → RelV x v → RelV y u → t x y H Q →
    wpAny (model X.prog X.w) X.A (inplaceOp op v u) (EP X pins σ Q) X.xe s
section
variable {X : Cx} {pos : Pos}
def gName (i : Nat) : TG := fun v σ H Q => Q (σ.set i (some v)) H
theorem pg_name {i : Nat} {x : Str} (hN : X.N.Nodup) (hi : X.N[i]? = some x) (hx : Loc X.env.scope x) (hf : X.fn x = true ∨ X.env.scope.names.lookup x = some .local := by first | exact .inl rfl | exact .inr rfl | assumption) : PG X (.Name x pos) (gName i) := by
  intro pins s σ H v u Q I r h
  exact wpAny_assign_Name (store_ok I hN hi hx r (fun s' I' => ⟨_, H, I', h⟩) hf)
def gNil : TGs := fun vs σ H Q => vs = [] ∧ Q σ H
def gCons (t : TG) (u : TGs) : TGs := fun vs σ H Q => ∃ v r, vs = v :: r ∧ t v σ H fun σ' H' => u r σ' H' Q
theorem pgs_nil : PGs X [] gNil := by
  intro pins s σ H vs us Q I r h
  obtain ⟨e, h⟩ := h
  subst e
  cases r
  exact assignInOrder_nil ⟨σ, H, I, h⟩
theorem pgs_cons {e : Expr} {es : List Expr} {t : TG} {u : TGs} (h1 : PG X e t) (h2 : PGs X es u)
    (hs : (assignEach (e :: es) X.env).map (·.2) = assign e X.env :: (assignEach es X.env).map (·.2) := by rfl) : PGs X (e :: es) (gCons t u) := by
  intro pins s σ H vs us Q I r h
  obtain ⟨v, vr, e1, h⟩ := h
  subst e1
  cases r with
  | cons r rr =>
    rw [hs]
    refine assignInOrder_cons (thn (h1 pins s σ H _ _ _ I r h) fun _ s1 ⟨σ1, H1, I1, q1⟩ => ?_)
    exact h2 pins s1 σ1 H1 _ _ Q I1 rr q1
/-- (a, b, ..) = a tuple of that length -/
def gTup (K : PySem.W.Frag) (n : Nat) (t : TGs) : TG := fun v σ H Q => ∃ a xs, v = .ref a ∧ SqT K H a xs ∧ xs.length = n ∧ t xs σ H Q
theorem pg_tup {es : List Expr} {k : Nat} {t : TGs} {n : Nat} (hc : X.calm = true) (h : PGs X es t)
    (hn : (assignEach es X.env).length = n := by rfl) (hst : (assignEach es X.env).findIdx? (·.1) = none := by rfl) : PG X (.Tuple es k pos) (gTup X.K n t) := by
  intro pins s σ H v u Q I r hw
  obtain ⟨a, xs, e1, hq, hl, hw⟩ := hw
  subst e1
  cases r
  obtain ⟨its, rv, ht, hz⟩ := I.tuple hq
  refine assign_Tuple_tuple (I.ok.hd hc) ht (by simp [hn, ← hl, rv.length]) hst fun h' hx => ?_
  have I1 : Inv X pins σ H { s with heap := h' } := I.kept (t' := s.toks) fun b o e => hx b o (Nat.ne_of_lt (Heap.lt_size e)) e
  exact h pins _ σ H xs _ Q I1 (by simpa using rv) hw
/-- o[i] = .. -/
def gSub (to ti : TE) (t : TSet) : TG := fun v σ H Q => to σ H fun o H1 => ti σ H1 fun i H2 => t o i v H2 fun H3 => Q σ H3
/-- target = value -/
def tAsg (te : TE) (g : TG) : TS := fun D σ H => te σ H fun x H1 => g x σ H1 D.nx
theorem ps_asg {tg e : Expr} {te : TE} {g : TG} (he : PE X e te) (hg : PG X tg g) (hs : swapsWithSole [tg] e pos.line X.env = pure false := by rfl) (hw : swappedStores [tg] e X.env = pure none := by rfl)
    (h1 : (assignEach [tg] X.env).map (·.2) = [assign tg X.env] := by rfl) : PS X (.Assign [tg] e pos) (tAsg te g) := by
  intro pins s σ H D I h
  refine wpAny_Assign_stores (thn (he pins s σ H _ I h) fun v s1 ⟨x, H1, I1, r1, q1⟩ => ?_) hs hw
  rw [h1]
  exact thn (hg pins s1 σ H1 x v _ I1 r1 q1) fun _ s2 q => q
/-- name = value -/
theorem ps_set {i : Nat} {x : Str} {e : Expr} {te : TE} {pos' : Pos} (hN : X.N.Nodup) (hi : X.N[i]? = some x) (hx : Loc X.env.scope x) (he : PE X e te) (hs : swapsWith e (some (.Name x pos')) pos.line X.env = pure false := by rfl) (hf : X.fn x = true ∨ X.env.scope.names.lookup x = some .local := by first | exact .inl rfl | exact .inr rfl | assumption) :
    PS X (.Assign [.Name x pos'] e pos) (tAsg te (gName i)) := by
  intro pins s σ H D I h
  refine wpAny_Assign_Name (thn (he pins s σ H _ I h) fun v s1 ⟨y, H1, I1, r1, q1⟩ => ?_) hs
  exact store_ok I1 hN hi hx r1 (fun s2 I2 => ⟨_, H1, I2, q1⟩) hf
/-- a, b = x, y with plain local names: stored from the right; the pair itself is not tracked (the opening rows as in PyProof/Rows/TupAssign.lean:23) -/
def tPar (i j : Nat) (ta : TA) : TS := fun D σ H => ta σ H fun vs H1 => ∃ v w, vs = [v, w] ∧ D.nx ((σ.set i (some v)).set j (some w)) H1
theorem ps_par {i j : Nat} {x y : Str} {a b : Expr} {ta : TA} {px py pt : Pos} {kt k2 pt2} (hc : X.calm = true) (hN : X.N.Nodup) (hi : X.N[i]? = some x) (hj : X.N[j]? = some y) (hij : i ≠ j)
    (hx : X.env.scope.names.lookup x = some .local) (hy : X.env.scope.names.lookup y = some .local) (ha : PA X [a, b] ta)
    (hw : swappedStores [.Tuple [.Name x px, .Name y py] kt pt] (.Tuple [a, b] k2 pt2) X.env = pure (some [x, y]))
    (hs : swapsWithSole [.Tuple [.Name x px, .Name y py] kt pt] (.Tuple [a, b] k2 pt2) pos.line X.env = pure false := by rfl) :
    PS X (.Assign [.Tuple [.Name x px, .Name y py] kt pt] (.Tuple [a, b] k2 pt2) pos) (tPar i j ta) := by
  intro pins s σ H D I h
  rw [exec_Assign_arm]
  refine wpAny_bind (wpAny_standAt ?_)
  rw [hs]
  refine wpAny_bind (wpAny_pure ?_)
  rw [if_neg (by decide)]
  refine wpAny_bind (Tuple_ (thn (ha _ pins s σ H _ I h) fun us s1 ⟨vs, H1, I1, r1, q1⟩ => ?_))
  obtain ⟨v, w, e1, q1⟩ := q1
  subst e1
  obtain ⟨u1, u2, rfl, rv, rw'⟩ : ∃ u1 u2, us = [u1, u2] ∧ RelV v u1 ∧ RelV w u2 := by
    cases r1 with
    | cons p q =>
      cases q with
      | cons p' q' =>
        cases q'
        exact ⟨_, _, rfl, p, p'⟩
  refine wpAny_newObj_type ?_ (by show 2 ≤ sizeLine; decide)
  have I2 : Inv X pins σ H1 { s1 with heap := s1.heap.push { cls := .type "tuple", data := .seq [u1, u2].toArray } } := I1.kept (t' := s1.toks) fun b o e => Heap.get?_push_of_some _ e
  rw [hw]
  refine wpAny_bind (wpAny_pure ?_)
  show wpAny (model X.prog X.w) X.A (do rule "assign.swapped-stores"; let items ← unpackItems (.ref s1.heap.objs.size) 2 none; assignInOrder [fun v => bindName X.env y v, fun v => bindName X.env x v] items.reverse; pure Flow.next) _ _ _
  refine wpAny_bind (wpAny_rule (wpAny_bind (unpackItems_tuple (items := #[u1, u2]) (I.ok.hd hc) (IsTup.new s1.heap _) fun h' hx' => ?_)))
  have I3 := I2.kept (h' := h') (t' := s1.toks) fun b o e => hx' b o (Nat.ne_of_lt (Heap.lt_size e)) e
  show wpAny _ _ (assignInOrder [fun v => bindName X.env y v, fun v => bindName X.env x v] [u2, u1] >>= fun _ => pure Flow.next) _ _ _
  refine wpAny_bind (assignInOrder_cons (wpAny_bindName (store_ok I3 hN hj (.inl hy) rw' (fun s2 I4 => ?_) (.inr hy))))
  refine assignInOrder_cons (wpAny_bindName (store_ok I4 hN hi (.inl hx) rv (fun s3 I5 => assignInOrder_nil (wpAny_pure ?_)) (.inr hx)))
  rw [List.set_comm _ _ (Ne.symm hij)] at I5
  exact ⟨_, H1, I5, q1⟩
/-- name op= e -/
def tAug (i : Nat) (te : TE) (ti : TIp) : TS := fun D σ H => ∃ x, σ[i]? = some (some x) ∧ te σ H fun y H1 => ti x y H1 fun z H2 => D.nx (σ.set i (some z)) H2
/-- o[i] op= e -/
def tAugS (to ti te : TE) (tget : V → V → Hp → VK → Prop) (tip : TIp) (tset : TSet) : TS := fun D σ H => to σ H fun o H1 => ti σ H1 fun i H2 => tget o i H2 fun x H3 => te σ H3 fun y H4 => tip x y H4 fun z H5 => tset o i z H5 fun H6 => D.nx σ H6
/-- o[i], by values -/
def PGet (X : Cx) (t : V → V → Hp → VK → Prop) : Prop :=
  ∀ (pins : List (Addr × Obj)) (s : Shared) (σ : St) (H : Hp) (o i : V) (ov iv : Value) (Q : VK), Inv X pins σ H s → RelV o ov → RelV i iv → t o i H Q →
    wpAny (model X.prog X.w) X.A (getItem ov iv) (EP X pins σ Q) X.xe s
/-- ints -/
def ipI (f : Int → Int → Int) : TIp := fun x y H Q => ∃ i j, x = .int i ∧ y = .int j ∧ Q (.int (f i j)) H
end

/-! ### while -/
section
variable {X : Cx} {pos : Pos}
/-- the invariant W with its measure -/
def tWhile (c : TT) (tb : TS) : TS := fun D σ H => ∃ W : Nat → St → Hp → Prop, (∃ m, W m σ H) ∧ ∀ m σ H, W m σ H →
  c σ H fun b H1 => if b = true then ∃ N : St → Hp → Prop, (∀ σ' H', N σ' H' → ∃ m', m' < m ∧ W m' σ' H') ∧ tb { D with nx := N, ct := N, bk := D.nx } σ H1 else D.nx σ H1
theorem ps_while {c : Expr} {body : List Stmt} {tc : TT} {tb : TS} (hp : PassesOwn (model X.prog X.w) X.A X.env X.xe) (hc : PT X c tc) (hb : PSs X body tb) : PS X (.While c body [] pos) (tWhile tc tb) := by
  intro pins s σ H D I h
  obtain ⟨W, ⟨m0, w0⟩, turn⟩ := h
  refine wpAny_While (codeAny_whileLoop (fun n s' => ∃ σ' H', Inv X pins σ' H' s' ∧ W n σ' H') ?_ m0 ⟨σ, H, I, w0⟩)
  rintro n s1 ⟨σ1, H1, I1, w1⟩
  refine wpAny_passesOwn hp (thn (hc pins s1 σ1 H1 _ I1 (turn n σ1 H1 w1)) fun b s2 ⟨H2, I2, q2⟩ => ?_)
  cases b with
  | true =>
    obtain ⟨N, hN, q2⟩ := q2
    rw [if_pos rfl]
    refine wpAny_passesOwn hp (thn (hb pins s2 σ1 H2 _ I2 q2) fun f s3 q3 => ?_)
    cases f with
    | next =>
      obtain ⟨σ3, H3, I3, n3⟩ := q3
      obtain ⟨m', hm, w3⟩ := hN σ3 H3 n3
      exact ⟨m', hm, σ3, H3, I3, w3⟩
    | cont =>
      obtain ⟨σ3, H3, I3, n3⟩ := q3
      obtain ⟨m', hm, w3⟩ := hN σ3 H3 n3
      exact ⟨m', hm, σ3, H3, I3, w3⟩
    | brk => exact q3
    | ret v => exact q3
  | false =>
    rw [if_neg Bool.false_ne_true]
    exact wpAny_execs_nil ⟨σ1, H2, I2, q2⟩
end

/-! ### what a loop or a comprehension walks -/
/-- at turn i: it yields x (the heap may grow), or it stops -/
structure It where
  go : Nat → Hp → Prop
  yld : Nat → Hp → V → Hp → Prop
  stop : Nat → Hp → Prop
/-- the iterator's own objects may turn: they are not the frame's, not pinned, younger than the entry (or a comprehension's own) -/
def FpOk (X : Cx) (pins : List (Addr × Obj)) (H : Hp) (b : Addr) : Prop :=
  H b = none ∧ b ≠ X.env.locals ∧ b ∉ X.fs ∧ (b ∈ X.ex ∨ X.s₀.heap.objs.size ≤ b) ∧ (∀ x c, X.env.cells.lookup x = some c → c ≠ b) ∧ ∀ p ∈ X.pn ++ pins, p.1 ≠ b
theorem Inv.fpOk {X : Cx} {pins : List (Addr × Obj)} {σ : St} {H H' : Hp} {s : Shared} {b : Addr} (I : Inv X pins σ H s) (hb : s.heap.objs.size ≤ b) (hn : H' b = none) : FpOk X pins H' b := by
  refine ⟨hn, Nat.ne_of_gt (Nat.lt_of_lt_of_le I.lt hb), I.nofs hb, .inr (Nat.le_trans I.sz hb), fun x c e z => ?_, fun p hp z => ?_⟩
  · obtain ⟨v, q⟩ := I.cell x c e
    exact absurd (Nat.lt_of_lt_of_le q.lt (by rw [z]; exact hb)) (Nat.lt_irrefl _)
  · exact absurd (Nat.lt_of_lt_of_le (Heap.lt_size (I.pin p hp).1) (by rw [z]; exact hb)) (Nat.lt_irrefl _)
structure Turn (P : Program) (w : World) (K : PySem.W.Frag) (tg : Expr) (J : It) (fp : List Addr) (it : Addr) (tn : Nat → Heap → Prop) : Prop where
  mem : it ∈ fp
  obj : ∀ i h, tn i h → ∀ b ∈ fp, ∃ o, h.get? b = some o ∧ ∀ v, o.data ≠ .cell v
  keep : ∀ i h h', tn i h → (∀ b ∈ fp, ∀ o, h.get? b = some o → h'.get? b = some o) → tn i h'
  item : ∀ (X : Cx), X.prog = P → X.w = w → X.K = K → X.calm = true → ∀ (i : Nat) (pins : List (Addr × Obj)) (s : Shared) (σ : St) (H : Hp) (E : Value → Shared → Prop), Inv X pins σ H s → (∀ b ∈ fp, FpOk X pins H b) → tn i s.heap → J.go i H →
    wpAny (model P w) X.A (pyNext (.ref it)) (fun r s1 => ∃ u, r = some u ∧
      wpAny (model P w) X.A (letOwnedTupleGo tg (.ref it) u) (fun _ s2 => ∃ x H', Inv X pins σ H' s2 ∧ RelV x u ∧ J.yld i H x H' ∧ tn (i + 1) s2.heap ∧ ∀ b ∈ fp, H' b = none) E s1) E s
  done : ∀ (X : Cx), X.prog = P → X.w = w → X.K = K → X.calm = true → ∀ (i : Nat) (pins : List (Addr × Obj)) (s : Shared) (σ : St) (H : Hp) (E : Value → Shared → Prop), Inv X pins σ H s → (∀ b ∈ fp, FpOk X pins H b) → tn i s.heap → J.stop i H →
    wpAny (model P w) X.A (pyNext (.ref it)) (fun r s1 => r = none ∧ Inv X pins σ H s1) E s
  self : ∀ (A : Around) (i : Nat) (s : Shared) (Q : Value → Shared → Prop) (E : Value → Shared → Prop), tn i s.heap → Q (.ref it) s → wpAny (model P w) A (pyIter (.ref it)) Q E s
abbrev TI := St → Hp → (It → Hp → Prop) → Prop
/-- an iterator has come -/
def PIE (X : Cx) (pins : List (Addr × Obj)) (σ : St) (tg : Expr) (R : It → Hp → Prop) (itv : Value) (s2 : Shared) : Prop :=
  ∃ (it : Addr) (fp : List Addr) (tn : Nat → Heap → Prop) (J : It) (H' : Hp), itv = .ref it ∧ Inv X pins σ H' s2 ∧ Turn X.prog X.w X.K tg J fp it tn ∧ tn 0 s2.heap ∧ (∀ b ∈ fp, FpOk X pins H' b) ∧ R J H'
def PI (X : Cx) (tg iter : Expr) (wi : TI) : Prop :=
  ∀ (pins : List (Addr × Obj)) (s : Shared) (σ : St) (H : Hp) (R : It → Hp → Prop), Inv X pins σ H s → wi σ H R →
    wpAny (model X.prog X.w) X.A (eval iter X.env) (fun v s1 => wpAny (model X.prog X.w) X.A (pyIter v) (PIE X pins σ tg R) X.xe s1) X.xe s

/-- the step ahead of the store is nothing for an iterator that keeps no tuple -/
theorem go_of {M : Model} {A : Around} {E : Value → Shared → Prop} {s : Shared} {tg : Expr} {it : Addr} {u : Value} {o : Obj} {n : String} {vs : Array Value} {Q : Unit → Shared → Prop} (ho : s.heap.get? it = some o) (hc : o.cls = .type n) (hd : o.data = .fields vs)
    (hn : ["enumerate", "zip", "dict_itemiterator", "dict_reverseitemiterator", "odict_iterator", "itertools.zip_longest", "itertools.pairwise"].contains n = false) (hQ : Q () s) : wpAny M A (letOwnedTupleGo tg (.ref it) u) Q E s := by
  unfold letOwnedTupleGo
  cases tg <;> first
    | exact wpAny_pure hQ
    | (cases u <;> first
        | exact wpAny_pure hQ
        | (refine wpAny_bind (wpAny_load ho ?_)
           rw [hc, hd]
           show wpAny M A (if (["enumerate", "zip", "dict_itemiterator", "dict_reverseitemiterator", "odict_iterator", "itertools.zip_longest", "itertools.pairwise"].contains n && vs[0]? == some (rawInt _)) = true then _ else _) Q E s
           rw [if_neg (by intro h; rw [hn, Bool.false_and] at h; cases h)]
           exact wpAny_pure hQ))

/-- the list at a, as it stands at each turn (a loop may append to it) -/
def Itl (K : PySem.W.Frag) (a : Addr) : It :=
  ⟨fun i H => ∃ xs x, SqL K H a xs ∧ xs[i]? = some x, fun i H x H' => H' = H ∧ ∀ xs, SqL K H a xs → xs[i]? = some x, fun i H => ∃ xs, SqL K H a xs ∧ xs.length ≤ i⟩
def Itt (K : PySem.W.Frag) (a : Addr) : It :=
  ⟨fun i H => ∃ xs x, SqT K H a xs ∧ xs[i]? = some x, fun i H x H' => H' = H ∧ ∀ xs, SqT K H a xs → xs[i]? = some x, fun i H => ∃ xs, SqT K H a xs ∧ xs.length ≤ i⟩
/-- lo, lo + 1, .. (n of them) -/
def Itr (lo : Int) (n : Nat) : It := ⟨fun i _ => i < n, fun i H x H' => H' = H ∧ x = .int (lo + i), fun i _ => n ≤ i⟩
theorem turn_list {P : Program} {w : World} {K : PySem.W.Frag} {tg : Expr} (a it : Addr) : Turn P w K tg (Itl K a) [it] it (fun i h => h.IsListIter it a i) where
  mem := by simp
  obj := fun i h st b hb => by
    have e : b = it := by simpa using hb
    subst e
    obtain ⟨o, e, c, d⟩ := st
    exact ⟨o, e, fun v z => by rw [d] at z; cases z⟩
  keep := fun i h h' st k => st.at fun o e => k it (by simp) o e
  item := by
    intro X hP hw hK hc i pins s σ H E I hf st hg
    subst hP hw hK
    obtain ⟨xs, x, hq, hx⟩ := hg
    obtain ⟨its, rv, p, hz⟩ := I.list hq
    obtain ⟨u, hu, ru⟩ := rv.get hx
    obtain ⟨f0, f1, f2, f3, f4, f5⟩ := hf it (by simp)
    refine wpAny_pyNext_list_item st p.isList (x := u) (by simpa using hu) fun h' st' sb => ?_
    have I1 : Inv X pins σ H { s with heap := h' } := I.turned (t' := s.toks) (fun b o hb e => (sb.2 b hb).trans e) f0 f1 f3 f4 f5
    obtain ⟨o, e, c, d⟩ := id st'
    exact ⟨u, rfl, go_of (s := { s with heap := h' }) e c d (by decide) ⟨x, H, I1, ru, ⟨rfl, fun ys hy => by rw [I.list_inj hy hq]; exact hx⟩, st', fun b hb => (hf b hb).1⟩⟩
  done := by
    intro X hP hw hK hc i pins s σ H E I hf st hg
    subst hP hw hK
    obtain ⟨xs, hq, hx⟩ := hg
    obtain ⟨its, rv, p, hz⟩ := I.list hq
    obtain ⟨f0, f1, f2, f3, f4, f5⟩ := hf it (by simp)
    have hl := rv.length
    exact wpAny_pyNext_list_end (I.ok.hd hc) st p.isList (by simp; omega) fun h' eb => ⟨rfl, I.turned (t' := s.toks) (fun b o hb e => eb b o hb e) f0 f1 f3 f4 f5⟩
  self := fun _ _ _ _ _ st h => wpAny_pyIter_listiter st h
theorem turn_tuple {P : Program} {w : World} {K : PySem.W.Frag} {tg : Expr} (a it : Addr) : Turn P w K tg (Itt K a) [it] it (fun i h => h.IsTupleIter it a i) where
  mem := by simp
  obj := fun i h st b hb => by
    have e : b = it := by simpa using hb
    subst e
    obtain ⟨o, e, c, d⟩ := st
    exact ⟨o, e, fun v z => by rw [d] at z; cases z⟩
  keep := fun i h h' st k => st.at fun o e => k it (by simp) o e
  item := by
    intro X hP hw hK hc i pins s σ H E I hf st hg
    subst hP hw hK
    obtain ⟨xs, x, hq, hx⟩ := hg
    obtain ⟨its, rv, p, hz⟩ := I.tuple hq
    obtain ⟨u, hu, ru⟩ := rv.get hx
    obtain ⟨f0, f1, f2, f3, f4, f5⟩ := hf it (by simp)
    refine wpAny_pyNext_tuple_item st (show s.heap.IsTuple a its.toArray from p) (x := u) (by simpa using hu) fun h' st' sb => ?_
    have I1 : Inv X pins σ H { s with heap := h' } := I.turned (t' := s.toks) (fun b o hb e => (sb.2 b hb).trans e) f0 f1 f3 f4 f5
    obtain ⟨o, e, c, d⟩ := id st'
    exact ⟨u, rfl, go_of (s := { s with heap := h' }) e c d (by decide) ⟨x, H, I1, ru, ⟨rfl, fun ys hy => by rw [I.tuple_inj hy hq]; exact hx⟩, st', fun b hb => (hf b hb).1⟩⟩
  done := by
    intro X hP hw hK hc i pins s σ H E I hf st hg
    subst hP hw hK
    obtain ⟨xs, hq, hx⟩ := hg
    obtain ⟨its, rv, p, hz⟩ := I.tuple hq
    obtain ⟨f0, f1, f2, f3, f4, f5⟩ := hf it (by simp)
    have hl := rv.length
    exact wpAny_pyNext_tuple_end (I.ok.hd hc) st (show s.heap.IsTuple a its.toArray from p) (by simp; omega) fun h' eb => ⟨rfl, I.turned (t' := s.toks) (fun b o hb e => eb b o hb e) f0 f1 f3 f4 f5⟩
  self := fun _ _ _ _ _ st h => wpAny_pyIter_tupleiter st h
theorem turn_range {P : Program} {w : World} {K : PySem.W.Frag} {tg : Expr} (it : Addr) (lo : Int) (n : Nat) : Turn P w K tg (Itr lo n) [it] it (fun i h => IsRangeIter h it (lo + (i : Nat) * 1) ((n : Int) - (i : Nat)) 1) where
  mem := by simp
  obj := fun i h st b hb => by
    have e : b = it := by simpa using hb
    subst e
    exact ⟨_, st, fun v z => by
      have z' : Data.fields _ = Data.cell v := z
      cases z'⟩
  keep := fun i h h' st k => k it (by simp) _ st
  item := by
    intro X hP hw hK hc i pins s σ H E I hf st hg
    subst hP hw hK
    obtain ⟨f0, f1, f2, f3, f4, f5⟩ := hf it (by simp)
    have W := Walks.range (prog := X.prog) (w := X.w) (I.ok.hd hc) it lo 1 n
    refine W.item i s _ _ hg st fun v h' tk hv st' kk => ?_
    obtain ⟨t, rfl⟩ := hv
    have I1 : Inv X pins σ H { s with heap := h', toks := tk } := I.turned (fun b o hb e => kk b o (by simpa using hb) e) f0 f1 f3 f4 f5
    refine ⟨_, rfl, go_of (s := { s with heap := h', toks := tk }) (n := "range_iterator") st' rfl rfl (by decide) ⟨.int (lo + i), H, I1, ⟨t, ?_⟩, ⟨rfl, rfl⟩, st', fun b hb => (hf b hb).1⟩⟩
    rw [Int.mul_one]
  done := by
    intro X hP hw hK hc i pins s σ H E I hf st hg
    subst hP hw hK
    obtain ⟨f0, f1, f2, f3, f4, f5⟩ := hf it (by simp)
    exact wpAny_pyNext_range_end (I.ok.hd hc) st (by have : n ≤ i := hg; omega) fun h' eb => ⟨rfl, I.turned (t' := s.toks) (fun b o hb e => eb b o hb e) f0 f1 f3 f4 f5⟩
  self := fun _ _ _ _ _ st h => wpAny_pyIter_rangeiter st h
end L2

namespace L2
open PySem PySem.Spec PyProof.Rows
section
variable {X : Cx} {tg : Expr}
def iList (K : PySem.W.Frag) (tl : TE) : TI := fun σ H R => tl σ H fun x H1 => ∃ a, x = .ref a ∧ (∃ xs, SqL K H1 a xs) ∧ R (Itl K a) H1
def iTup (K : PySem.W.Frag) (tl : TE) : TI := fun σ H R => tl σ H fun x H1 => ∃ a, x = .ref a ∧ (∃ xs, SqT K H1 a xs) ∧ R (Itt K a) H1
theorem pi_list {l : Expr} {tl : TE} (hl : PE X l tl) : PI X tg l (iList X.K tl) := by
  intro pins s σ H R I h
  refine thn (hl pins s σ H _ I h) fun v s1 ⟨x, H1, I1, r1, q1⟩ => ?_
  obtain ⟨a, e, ⟨xs, hq⟩, q⟩ := q1
  subst e
  cases r1
  obtain ⟨its, rv, p, hz⟩ := I1.list hq
  refine wpAny_pyIter_list p.isList ?_
  refine ⟨s1.heap.objs.size, [s1.heap.objs.size], _, _, H1, rfl, I1.kept (t' := s1.toks) fun b o e => Heap.get?_push_of_some _ e, turn_list a _, ⟨_, Heap.get?_push_size _ rfl, rfl, rfl⟩, fun b hb => ?_, q⟩
  have e : b = s1.heap.objs.size := by simpa using hb
  subst e
  exact I1.fpOk (Nat.le_refl _) (I1.hok.fresh (Nat.le_refl _))
theorem pi_tup {l : Expr} {tl : TE} (hl : PE X l tl) : PI X tg l (iTup X.K tl) := by
  intro pins s σ H R I h
  refine thn (hl pins s σ H _ I h) fun v s1 ⟨x, H1, I1, r1, q1⟩ => ?_
  obtain ⟨a, e, ⟨xs, hq⟩, q⟩ := q1
  subst e
  cases r1
  obtain ⟨its, rv, p, hz⟩ := I1.tuple hq
  refine wpAny_pyIter_tuple (show s1.heap.IsTuple a its.toArray from p) ?_
  refine ⟨s1.heap.objs.size, [s1.heap.objs.size], _, _, H1, rfl, I1.kept (t' := s1.toks) fun b o e => Heap.get?_push_of_some _ e, turn_tuple a _, ⟨_, Heap.get?_push_size _ rfl, rfl, rfl⟩, fun b hb => ?_, q⟩
  have e : b = s1.heap.objs.size := by simpa using hb
  subst e
  exact I1.fpOk (Nat.le_refl _) (I1.hok.fresh (Nat.le_refl _))
/-- a range object just made, walked -/
theorem range_it {pins : List (Addr × Obj)} {σ : St} {H : Hp} {s : Shared} {R : It → Hp → Prop} {E : Value → Shared → Prop} {lo hi : Int} {t u v : Tok} {tk : Nat} (I : Inv X pins σ H s) (h1 : -(2 ^ 62) ≤ lo) (h2 : lo < 2 ^ 62) (h3 : -(2 ^ 62) ≤ hi) (h4 : hi < 2 ^ 62)
    (q : R (Itr lo (hi - lo).toNat) H) : wpAny (model X.prog X.w) X.A (pyIter (.ref s.heap.objs.size)) (PIE X pins σ tg R) E { s with heap := s.heap.push { cls := .type "range", data := .fields #[.int lo t, .int hi u, .int 1 v] }, toks := tk } := by
  refine wpAny_pyIter_range (IsRange.new ..) (small_one h1 h2 h3 h4) ?_
  have I1 : Inv X pins σ H { s with heap := s.heap.push { cls := .type "range", data := .fields #[.int lo t, .int hi u, .int 1 v] }, toks := tk } := I.kept fun b o e => Heap.get?_push_of_some _ e
  refine ⟨(s.heap.push { cls := .type "range", data := .fields #[.int lo t, .int hi u, .int 1 v] }).objs.size, [(s.heap.push { cls := .type "range", data := .fields #[.int lo t, .int hi u, .int 1 v] }).objs.size], _, _, H, rfl,
    I1.kept (t' := tk) fun b o e => Heap.get?_push_of_some _ e, turn_range _ lo (hi - lo).toNat, ?_, fun b hb => ?_, q⟩
  · have e1 : lo + ((0 : Nat) : Int) * 1 = lo := by simp
    have e2 : (((hi - lo).toNat : Nat) : Int) - ((0 : Nat) : Int) = Builtin.Range.rangeSize lo hi 1 := by rw [rangeSize_one]; split <;> omega
    show IsRangeIter _ _ (lo + ((0 : Nat) : Int) * 1) ((((hi - lo).toNat : Nat) : Int) - ((0 : Nat) : Int)) 1
    rw [e1, e2]
    exact Heap.get?_push_size _ rfl
  · have e : b = (s.heap.push { cls := .type "range", data := .fields #[.int lo t, .int hi u, .int 1 v] }).objs.size := by simpa using hb
    subst e
    exact I1.fpOk (Nat.le_refl _) (I1.hok.fresh (Nat.le_refl _))
def iRng1 (ta : TA) : TI := fun σ H R => ta σ H fun vs H1 => ∃ j : Int, vs = [.int j] ∧ -(2 ^ 62) ≤ j ∧ j < 2 ^ 62 ∧ R (Itr 0 j.toNat) H1
def iRng2 (ta : TA) : TI := fun σ H R => ta σ H fun vs H1 => ∃ i j : Int, vs = [.int i, .int j] ∧ (-(2 ^ 62) ≤ i ∧ i < 2 ^ 62 ∧ -(2 ^ 62) ≤ j ∧ j < 2 ^ 62) ∧ R (Itr i (j - i).toNat) H1
theorem pi_range1 {a : Expr} {ta : TA} {p pos : Pos} (hg : Gl X "range") (hm : X.mg "range" = none) (ha : PA X [a] ta) (hs : starEach [a] X.env = [(false, eval a X.env)] := by rfl) : PI X tg (.Call (.Name "range" p) [a] [] pos) (iRng1 ta) := by
  intro pins s σ H R I h
  refine Call_ (ld_blt I hg hm boot_range (PyProof.Rows.callWith_type1 (thn (ha pos pins s σ H _ I h) fun us s1 ⟨vs, H1, I1, r1, q1⟩ => ?_) hs rfl))
  obtain ⟨j, e, q1, q2, q⟩ := q1
  subst e
  cases r1 with
  | cons r rr =>
    cases rr
    obtain ⟨t, rfl⟩ := r
    exact call_range_1 (range_it I1 (by omega) (by omega) q1 q2 (by simpa using q))
/-! ### for -/
/-- W: the invariant by the turn and a measure; N: what the body is to reach -/
def tFor (wi : TI) (g : TG) (tb : TS) : TS := fun D σ H => wi σ H fun J H1 => ∃ W : Nat → Nat → St → Hp → Prop, (∃ m, W 0 m σ H1) ∧ ∀ i m σ H, W i m σ H →
  (J.stop i H ∧ D.nx σ H) ∨ (J.go i H ∧ ∃ N : St → Hp → Prop, (∀ σ' H', N σ' H' → ∃ m', m' < m ∧ W (i + 1) m' σ' H') ∧ ∀ x H', J.yld i H x H' → g x σ H' fun σ2 H2 => tb { D with nx := N, ct := N, bk := D.nx } σ2 H2)
/-- the records at fp as they stand -/
def pinsAt (fp : List Addr) (h : Heap) : List (Addr × Obj) := fp.filterMap fun b => (h.get? b).map fun o => (b, o)
theorem mem_pinsAt {fp : List Addr} {h : Heap} {b : Addr} {o : Obj} (hb : b ∈ fp) (e : h.get? b = some o) : (b, o) ∈ pinsAt fp h := List.mem_filterMap.mpr ⟨b, hb, by rw [e]; rfl⟩
theorem of_pinsAt {fp : List Addr} {h : Heap} {p : Addr × Obj} (hp : p ∈ pinsAt fp h) : p.1 ∈ fp ∧ h.get? p.1 = some p.2 := by
  obtain ⟨b, hb, e⟩ := List.mem_filterMap.mp hp
  cases q : h.get? b with
  | none => rw [q] at e; cases e
  | some o =>
    rw [q] at e
    have e' : (b, o) = p := Option.some.inj e
    subst e'
    exact ⟨hb, q⟩
theorem Inv.pinned {pins : List (Addr × Obj)} {σ : St} {H : Hp} {s : Shared} {fp : List Addr} (I : Inv X pins σ H s) (hf : ∀ b ∈ fp, FpOk X pins H b) (ho : ∀ b ∈ fp, ∃ o, s.heap.get? b = some o ∧ ∀ v, o.data ≠ .cell v) : Inv X (pins ++ pinsAt fp s.heap) σ H s :=
  I.pins_of fun p hp => (List.mem_append.mp hp).elim (fun z => I.pin p (List.mem_append_right _ z)) fun z => by
    obtain ⟨hb, e⟩ := of_pinsAt z
    obtain ⟨f0, f1, f2, _⟩ := hf p.1 hb
    obtain ⟨o, e', d⟩ := ho p.1 hb
    rw [e] at e'; cases e'
    exact ⟨e, f0, f1, f2, d⟩
theorem Inv.unpinned {pins pl : List (Addr × Obj)} {σ : St} {H : Hp} {s : Shared} (I : Inv X (pins ++ pl) σ H s) : Inv X pins σ H s := I.pins_of fun p hp => I.pin p (List.mem_append_right _ (List.mem_append_left _ hp))
theorem ps_for {iter : Expr} {body : List Stmt} {wi : TI} {g : TG} {tb : TS} {pos : Pos} (hp : PassesOwn (model X.prog X.w) X.A X.env X.xe) (hc : X.calm = true) (hi : PI X tg iter wi) (hg : PG X tg g) (hb : PSs X body tb)
    (hs : ∀ x, foldedSetIterable iter X.env x = pure x := by intro _; rfl) : PS X (.For tg iter body [] pos) (tFor wi g tb) := by
  intro pins s σ H D I h
  refine wpAny_For (thn (hi pins s σ H _ I h) fun v s1 h1 => thn h1 fun itv s2 h2 => ?_) hs
  obtain ⟨it, fp, tn, J, H2, e, I2, T, st2, f2, W, ⟨m0, w0⟩, turn⟩ := h2
  subst e
  -- what stays true of the iterator's objects through the loop
  have stat : ∀ {H' : Hp}, (∀ b ∈ fp, H' b = none) → ∀ b ∈ fp, FpOk X pins H' b := fun hn b hb => ⟨hn b hb, (f2 b hb).2⟩
  refine codeAny_forLoop_any (fun n s' => ∃ i σ' H', Inv X pins σ' H' s' ∧ tn i s'.heap ∧ (∀ b ∈ fp, H' b = none) ∧ W i n σ' H') ?_ m0 ⟨0, σ, H2, I2, st2, fun b hb => (f2 b hb).1, w0⟩
  rintro n s3 ⟨i, σ3, H3, I3, st3, fr3, w3⟩
  rcases turn i n σ3 H3 w3 with ⟨stop, qn⟩ | ⟨go, N, hN, step⟩
  · refine wpAny_passesOwn hp (thn (T.done X rfl rfl rfl hc i pins s3 σ3 H3 X.xe I3 (stat fr3) st3 stop) fun r s4 ⟨hr, I4⟩ => ?_)
    subst hr
    exact wpAny_execs_nil ⟨σ3, H3, I4, qn⟩
  · refine wpAny_passesOwn hp (thn (T.item X rfl rfl rfl hc i pins s3 σ3 H3 X.xe I3 (stat fr3) st3 go) fun r s4 ⟨u, hr, h4⟩ => ?_)
    subst hr
    refine wpAny_passesOwn hp (thn h4 fun _ s5 ⟨x, H5, I5, r5, y5, st5, fr5⟩ => ?_)
    have I5' := I5.pinned (stat fr5) (T.obj _ _ st5)
    refine wpAny_passesOwn hp (thn (hg _ s5 σ3 H5 x u _ I5' r5 (step x H5 y5)) fun _ s6 ⟨σ6, H6, I6, q6⟩ => ?_)
    refine wpAny_passesOwn hp (thn (hb _ s6 σ6 H6 _ I6 q6) fun f s7 q7 => ?_)
    have again : ∀ {σ7 : St} {H7 : Hp}, Inv X (pins ++ pinsAt fp s5.heap) σ7 H7 s7 → N σ7 H7 → ∃ m, m < n ∧ ∃ i σ' H', Inv X pins σ' H' s7 ∧ tn i s7.heap ∧ (∀ b ∈ fp, H' b = none) ∧ W i m σ' H' := fun {σ7 H7} I7 n7 => by
      obtain ⟨m', hm, w7⟩ := hN σ7 H7 n7
      refine ⟨m', hm, i + 1, σ7, H7, I7.unpinned, T.keep _ _ _ st5 fun b hb o e => (I7.pin (b, o) (List.mem_append_right _ (List.mem_append_right _ (mem_pinsAt hb e)))).1, fun b hb => ?_, w7⟩
      obtain ⟨o, e, d⟩ := T.obj _ _ st5 b hb
      exact (I7.pin (b, o) (List.mem_append_right _ (List.mem_append_right _ (mem_pinsAt hb e)))).2.1
    cases f with
    | next => obtain ⟨σ7, H7, I7, n7⟩ := q7; exact again I7 n7
    | cont => obtain ⟨σ7, H7, I7, n7⟩ := q7; exact again I7 n7
    | brk => obtain ⟨σ7, H7, I7, q7⟩ := q7; exact ⟨σ7, H7, I7.unpinned, q7⟩
    | ret v => obtain ⟨x7, σ7, H7, I7, r7, q7⟩ := q7; exact ⟨x7, σ7, H7, I7.unpinned, r7, q7⟩
end

/-! ### the forms one uses -/
end L2

namespace L2
open PySem PySem.Spec PyProof.Rows

abbrev R2 := V → V → Hp → VK → Prop
/-- a two-place operation on values: f is binaryOp op, inplaceOp op or compareOp op -/
def OpR (X : Cx) (f : Value → Value → Sem Value) (r : R2) : Prop :=
  ∀ (pins : List (Addr × Obj)) (s : Shared) (σ : St) (H : Hp) (x y : V) (v u : Value) (Q : VK), Inv X pins σ H s → RelV x v → RelV y u → r x y H Q →
    wpAny (model X.prog X.w) X.A (f v u) (EP X pins σ Q) X.xe s
/-- a one-place operation -/
def UnR (X : Cx) (f : Value → Sem Value) (r : V → Hp → VK → Prop) : Prop :=
  ∀ (pins : List (Addr × Obj)) (s : Shared) (σ : St) (H : Hp) (x : V) (v : Value) (Q : VK), Inv X pins σ H s → RelV x v → r x H Q →
    wpAny (model X.prog X.w) X.A (f v) (EP X pins σ Q) X.xe s
/-- a call of a value that is known (a builtin, a type) with values -/
def CallR (X : Cx) (f : Value) (r : List V → Hp → VK → Prop) : Prop :=
  ∀ (pins : List (Addr × Obj)) (s : Shared) (σ : St) (H : Hp) (xs : List V) (us : List Value) (Q : VK), Inv X pins σ H s → Vals xs us → r xs H Q →
    wpAny (model X.prog X.w) X.A (call f us) (EP X pins σ Q) X.xe s
/-- a value's truth -/
def TruR (X : Cx) (r : V → Hp → (Bool → Hp → Prop) → Prop) : Prop :=
  ∀ (pins : List (Addr × Obj)) (s : Shared) (σ : St) (H : Hp) (x : V) (v : Value) (Q : Bool → Hp → Prop), Inv X pins σ H s → RelV x v → r x H Q →
    wpAny (model X.prog X.w) X.A (truthy v) (TP X pins σ Q) X.xe s

def tOp (r : R2) (ta tb : TE) : TE := fun σ H Q => ta σ H fun x H1 => tb σ H1 fun y H2 => r x y H2 Q
def tUn (r : V → Hp → VK → Prop) (ta : TE) : TE := fun σ H Q => ta σ H fun x H1 => r x H1 Q
/-- ints in, under C, and a value out -/
def rI (C : Int → Int → Prop) (g : Int → Int → V) : R2 := fun x y H Q => ∃ i j, x = .int i ∧ y = .int j ∧ C i j ∧ Q (g i j) H
def rI0 (g : Int → Int → V) : R2 := fun x y H Q => ∃ i j, x = .int i ∧ y = .int j ∧ Q (g i j) H
def rU (g : Int → V) : V → Hp → VK → Prop := fun x H Q => ∃ i, x = .int i ∧ Q (g i) H

section
variable {X : Cx} {a b c : Expr} {ta tb tc : TE} {pos : Pos}

theorem binT (ha : PE X a ta) (hb : PE X b tb) {pins : List (Addr × Obj)} {s : Shared} {σ : St} {H : Hp} {R : V → V → Hp → Prop} (I : Inv X pins σ H s)
    (h : ta σ H fun x H1 => tb σ H1 fun y H2 => R x y H2) {Q : Value → Shared → Prop} {f : Value → Value → Sem Value}
    (hf : ∀ v u s2 x y H2, Inv X pins σ H2 s2 → RelV x v → RelV y u → R x y H2 → wpAny (model X.prog X.w) X.A (f v u) Q X.xe s2) :
    wpAny (model X.prog X.w) X.A (eval a X.env) (fun v s₁ => wpAny (model X.prog X.w) X.A (eval b X.env) (fun u s₂ => wpAny (model X.prog X.w) X.A (f v u) Q X.xe s₂) X.xe s₁) X.xe s := by
  refine thn (ha pins s σ H _ I h) fun v s1 ⟨x, H1, I1, r1, q1⟩ => ?_
  refine thn (hb pins s1 σ H1 _ I1 q1) fun u s2 ⟨y, H2, I2, r2, q2⟩ => ?_
  exact hf v u s2 x y H2 I2 r1 r2 q2

theorem pe_op {op : Operator} {r : R2} (ho : OpR X (binaryOp op) r) (ha : PE X a ta) (hb : PE X b tb) : PE X (.BinOp a op b pos) (tOp r ta tb) := by
  intro pins s σ H Q I h
  exact wpAny_BinOp (binT ha hb I h fun v u s2 x y H2 I2 rx ry q => ho pins s2 σ H2 x y v u Q I2 rx ry q)
theorem pe_un {op : UnaryOp} {r : V → Hp → VK → Prop} (ho : UnR X (unaryOp op) r) (ha : PE X a ta) : PE X (.UnaryOp op a pos) (tUn r ta) := by
  intro pins s σ H Q I h
  exact UnaryOp_ (thn (ha pins s σ H _ I h) fun v s1 ⟨x, H1, I1, r1, q1⟩ => ho pins s1 σ H1 x v Q I1 r1 q1)
/-! ### ints -/
theorem opI {f : Value → Value → Sem Value} {C : Int → Int → Prop} {g : Int → Int → Int}
    (rule : ∀ (i j : Int) (t u : Tok) (s : Shared) (Q : Value → Shared → Prop) (E : Value → Shared → Prop), C i j → Q (.int (g i j) s.toks) { s with toks := s.toks + 1 } → wpAny (model X.prog X.w) X.A (f (.int i t) (.int j u)) Q E s) :
    OpR X f (rI C fun i j => .int (g i j)) := by
  intro pins s σ H x y v u Q I rx ry h
  obtain ⟨i, j, rfl, rfl, hc, q⟩ := h
  obtain ⟨t, rfl⟩ := rx
  obtain ⟨t', rfl⟩ := ry
  exact rule i j t t' s _ _ hc ⟨.int (g i j), H, I.tok _, ⟨_, rfl⟩, q⟩
theorem opI0 {f : Value → Value → Sem Value} {g : Int → Int → Int}
    (rule : ∀ (i j : Int) (t u : Tok) (s : Shared) (Q : Value → Shared → Prop) (E : Value → Shared → Prop), Q (.int (g i j) s.toks) { s with toks := s.toks + 1 } → wpAny (model X.prog X.w) X.A (f (.int i t) (.int j u)) Q E s) :
    OpR X f (rI0 fun i j => .int (g i j)) := by
  intro pins s σ H x y v u Q I rx ry h
  obtain ⟨i, j, rfl, rfl, q⟩ := h
  obtain ⟨t, rfl⟩ := rx
  obtain ⟨t', rfl⟩ := ry
  exact rule i j t t' s _ _ ⟨.int (g i j), H, I.tok _, ⟨_, rfl⟩, q⟩
theorem opB0 {f : Value → Value → Sem Value} {g : Int → Int → Bool}
    (rule : ∀ (i j : Int) (t u : Tok) (s : Shared) (Q : Value → Shared → Prop) (E : Value → Shared → Prop), Q (.bool (g i j)) s → wpAny (model X.prog X.w) X.A (f (.int i t) (.int j u)) Q E s) :
    OpR X f (rI0 fun i j => .bl (g i j)) := by
  intro pins s σ H x y v u Q I rx ry h
  obtain ⟨i, j, rfl, rfl, q⟩ := h
  obtain ⟨t, rfl⟩ := rx
  obtain ⟨t', rfl⟩ := ry
  exact rule i j t t' s _ _ ⟨.bl (g i j), H, I, rfl, q⟩

def CDiv (i j : Int) : Prop := 0 < j ∧ j < 1073741824
def CDivN (i j : Int) : Prop := j ≠ 0 ∧ j.natAbs < 1073741824
def CPow (i j : Int) : Prop := 0 ≤ j ∧ j ≤ 1000000 ∧ i.natAbs < 2 ^ 64
def CMul (i j : Int) : Prop := (-(2 ^ 64) < i ∧ i < 2 ^ 64) ∨ (-(2 ^ 64) < j ∧ j < 2 ^ 64)
theorem CMul.ok {i j : Int} (h : CMul i j) : IntMulOk i j := by
  rcases h with ⟨h1, h2⟩ | ⟨h1, h2⟩
  · exact .of_left (intBits_le_64 h1 h2)
  · exact .of_right (intBits_le_64 h1 h2)
theorem op_add : OpR X (binaryOp .Add) (rI0 fun i j => .int (i + j)) := opI0 fun _ _ _ _ _ _ _ q => add_int q
theorem op_sub : OpR X (binaryOp .Sub) (rI0 fun i j => .int (i - j)) := opI0 fun _ _ _ _ _ _ _ q => sub_int q
theorem op_mul : OpR X (binaryOp .Mult) (rI CMul fun i j => .int (i * j)) := opI fun _ _ _ _ _ _ _ hc q => mul_int q hc.ok
/-- // by a positive divisor -/
theorem op_fdiv : OpR X (binaryOp .FloorDiv) (rI CDiv fun i j => .int (i / j)) := opI fun i j _ _ _ _ _ hc q => by
  have h1 : (0 : Int) < j := hc.1
  have h2 : j < 1073741824 := hc.2
  exact floordiv_int (by omega) (by rw [Int.fdiv_eq_ediv_of_nonneg i (by omega)]; exact q) (.inl (PyProof.noPylong_small (by omega)))
/-- % by a positive divisor of any size -/
theorem op_mod : OpR X (binaryOp .Mod) (rI (fun _ j => 0 < j) fun i j => .int (i % j)) := opI fun i j _ _ _ _ _ hc q => by
  have h1 : (0 : Int) < j := hc
  exact mod_int' (by omega) (by rw [Int.fmod_eq_emod_of_nonneg i (by omega)]; exact q)
theorem op_pow : OpR X (binaryOp .Pow) (rI CPow fun i j => .int (i ^ j.toNat)) := opI fun _ _ _ _ _ _ _ hc q => pow_int_small hc.1 hc.2.1 hc.2.2 q
theorem unI {f : Value → Sem Value} {g : Int → Int}
    (rule : ∀ (i : Int) (t : Tok) (s : Shared) (Q : Value → Shared → Prop) (E : Value → Shared → Prop), Q (.int (g i) s.toks) { s with toks := s.toks + 1 } → wpAny (model X.prog X.w) X.A (f (.int i t)) Q E s) :
    UnR X f (rU fun i => .int (g i)) := by
  intro pins s σ H x v Q I rx h
  obtain ⟨i, rfl, q⟩ := h
  obtain ⟨t, rfl⟩ := rx
  exact rule i t s _ _ ⟨.int (g i), H, I.tok _, ⟨_, rfl⟩, q⟩
theorem un_neg : UnR X (unaryOp .USub) (rU fun i => .int (-i)) := unI fun _ _ _ _ _ q => neg_int q
/-! ### bools among ints: n += (a < b) -/
end

/-! ### comparisons -/
/-- the scalars that == tells apart as data does -/
def scal : V → V → Bool
  | .non, .non => true | .non, .int _ => true | .int _, .non => true | .non, .bl _ => true | .bl _, .non => true | .non, .str _ => true | .str _, .non => true
  | .int _, .int _ => true | .bl _, .bl _ => true | .str _, .str _ => true | .byt _, .byt _ => true
  | .int _, .str _ => true | .str _, .int _ => true | .bl _, .str _ => true | .str _, .bl _ => true
  | _, _ => false
def rEq : R2 := fun x y H Q => scal x y = true ∧ Q (.bl (decide (x = y))) H
def rNe : R2 := fun x y H Q => scal x y = true ∧ Q (.bl (!decide (x = y))) H

section
variable {X : Cx} {a b c : Expr} {ta tb tc : TE} {pos : Pos}
theorem fin_bl {pins : List (Addr × Obj)} {σ : St} {H : Hp} {s : Shared} {Q : VK} {k k' : Bool} (I : Inv X pins σ H s) (q : Q (.bl k) H) (e : k = k') : EP X pins σ Q (.bool k') s := by
  subst e
  exact ⟨.bl k, H, I, rfl, q⟩
theorem op_lt : OpR X (compareOp .Lt) (rI0 fun i j => .bl (decide (i < j))) := opB0 fun _ _ _ _ _ _ _ q => lt_int q
theorem op_gt : OpR X (compareOp .Gt) (rI0 fun i j => .bl (decide (j < i))) := opB0 fun _ _ _ _ _ _ _ q => gt_int q
theorem op_ge : OpR X (compareOp .GtE) (rI0 fun i j => .bl (decide (j ≤ i))) := opB0 fun _ _ _ _ _ _ _ q => ge_int q
/-- is, is not of two objects that are tracked lists or instances -/
def isObj : HO → Bool
  | .lst _ => true
  | .ins _ _ _ => true
  | _ => false
/-- two rules for one operation: by cases -/
theorem OpR.or {f : Value → Value → Sem Value} {r r' : R2} (h : OpR X f r) (h' : OpR X f r') : OpR X f (fun x y H Q => r x y H Q ∨ r' x y H Q) := by
  intro pins s σ H x y v u Q I rx ry q
  rcases q with q | q
  · exact h pins s σ H x y v u Q I rx ry q
  · exact h' pins s σ H x y v u Q I rx ry q

theorem nomark (b : Expr) {op : CmpOp} (h : op ≠ .In := by decide) (h2 : op ≠ .NotIn := by decide) : behindInMarks op b = false := by
  have e1 : (op == CmpOp.In) = false := by cases op <;> first | rfl | exact absurd rfl h
  have e2 : (op == CmpOp.NotIn) = false := by cases op <;> first | rfl | exact absurd rfl h2
  cases b <;> simp [behindInMarks, e1, e2]
/-- a comparison as a value; hm: nomark b, or (for in, not in) by with_unfolding_all rfl -/
theorem pe_cmpR {op : CmpOp} {r : R2} (ho : OpR X (compareOp op) r) (ha : PE X a ta) (hb : PE X b tb) (hm : behindInMarks op b = false) : PE X (.Compare a [op] [b] pos) (tOp r ta tb) := by
  intro pins s σ H Q I h
  exact wpAny_Compare1 (binT ha hb I h fun v u s2 x y H2 I2 rx ry q => ho pins s2 σ H2 x y v u Q I2 rx ry q) hm
/-- a reading of a value as a test -/
def tTest (t : TE) : TT := fun σ H Q => t σ H fun x H' => ∃ k, x = .bl k ∧ Q k H'
theorem pt_cmpR {op : CmpOp} {r : R2} (ho : OpR X (compareOp op) r) (ha : PE X a ta) (hb : PE X b tb) (hm : behindInMarks op b = false) : PT X (.Compare a [op] [b] pos) (tTest (tOp r ta tb)) := by
  intro pins s σ H Q I h
  refine wpAny_isTrue_Compare1 (thn (ha pins s σ H _ I h) fun v s1 ⟨x, H1, I1, r1, q1⟩ => thn (hb pins s1 σ H1 _ I1 q1) fun u s2 ⟨y, H2, I2, r2, q2⟩ =>
    thn (ho pins s2 σ H2 x y v u _ I2 r1 r2 q2) fun c s3 ⟨z, H3, I3, r3, k, e, q3⟩ => ?_) hm
  subst e
  cases r3
  exact wpAny_truthy_bool ⟨H3, I3, q3⟩
/-- a op1 b op2 c -/
def tChain (r r' : R2) (ta tb tc : TE) : TE := fun σ H Q => ta σ H fun x H1 => tb σ H1 fun y H2 => r x y H2 fun z H3 => ∃ k, z = .bl k ∧
  (if k = true then tc σ H3 fun w' H4 => r' y w' H4 Q else Q (.bl false) H3)
/-! ### truth -/
/-- a value's truth by the abstract heap -/
def TruV (K : PySem.W.Frag) (x : V) (H : Hp) (k : Bool) : Prop :=
  match x with
  | .non => k = false
  | .bl b => k = b
  | .int i => k = (i != 0)
  | .str y => y.length ≤ sizeLine ∧ k = ((y.length : Int) != 0)
  | .byt y => y.size ≤ sizeLine ∧ k = ((y.size : Int) != 0)
  | .ref p => (∃ xs, SqL K H p xs ∧ k = !xs.isEmpty) ∨ (∃ xs, SqT K H p xs ∧ k = !xs.isEmpty) ∨ ∃ kvs, H p = some (.dK kvs) ∧ k = !kvs.isEmpty
  | _ => False
theorem line63 : (sizeLine : Nat) < 2 ^ 63 := by rw [sizeLine_eq]; decide
/-! ### strs and bytes -/
theorem op_add_str : OpR X (binaryOp .Add) (fun x y H Q => ∃ i j, x = .str i ∧ y = .str j ∧ i.length + j.length ≤ sizeLine ∧ Q (.str (i ++ j)) H) := by
  intro pins s σ H x y v u Q I rx ry h
  obtain ⟨i, j, rfl, rfl, hz, q⟩ := h
  obtain ⟨t, rfl⟩ := rx
  obtain ⟨t', rfl⟩ := ry
  exact add_str (fun t' tk => ⟨.str (i ++ j), H, I.tok _, ⟨_, rfl⟩, q⟩) hz
def PlainIxT (b : Expr) : Prop := ∀ o i, subscripted b false o i = operate [o, i] (getItem o i)
/-! ### scalar builtins, by CallR -/
theorem vals1 {x : V} {us : List Value} (r : Vals [x] us) : ∃ u, us = [u] ∧ RelV x u := by
  cases r with
  | cons r1 r2 => cases r2; exact ⟨_, rfl, r1⟩
theorem vals2 {x y : V} {us : List Value} (r : Vals [x, y] us) : ∃ u w', us = [u, w'] ∧ RelV x u ∧ RelV y w' := by
  cases r with
  | cons r1 r2 =>
    cases r2 with
    | cons r3 r4 => cases r4; exact ⟨_, _, rfl, r1, r3⟩
theorem call_abs : CallR X (.builtin "abs") (fun xs H Q => ∃ i, xs = [.int i] ∧ Q (.int (if i < 0 then -i else i)) H) := by
  intro pins s σ H xs us Q I r h
  obtain ⟨i, rfl, q⟩ := h
  obtain ⟨u, rfl, t, rfl⟩ := vals1 r
  exact call_abs_int fun u tk => ⟨.int (if i < 0 then -i else i), H, I.tok _, ⟨_, rfl⟩, q⟩
theorem call_max2 (hc : X.calm = true) : CallR X (.builtin "max") (fun xs H Q => ∃ i j, xs = [.int i, .int j] ∧ Q (.int (if j > i then j else i)) H) := by
  intro pins s σ H xs us Q I r h
  obtain ⟨i, j, rfl, q⟩ := h
  obtain ⟨u, w', rfl, ⟨t, rfl⟩, ⟨t', rfl⟩⟩ := vals2 r
  refine max_two_ints (I.ok.hd hc) fun h' tk k => ⟨_, H, I.kept k, ?_, q⟩
  by_cases hj : j > i
  · rw [if_pos hj, if_pos hj]; exact ⟨_, rfl⟩
  · rw [if_neg hj, if_neg hj]; exact ⟨_, rfl⟩
theorem call_int1 : CallR X (.type "int") (fun xs H Q => (∃ i, xs = [.int i] ∧ Q (.int i) H) ∨ ∃ k, xs = [.bl k] ∧ Q (.int (if k then 1 else 0)) H) := by
  intro pins s σ H xs us Q I r h
  rcases h with ⟨i, rfl, q⟩ | ⟨k, rfl, q⟩
  · obtain ⟨u, rfl, t, rfl⟩ := vals1 r
    exact call_int_int ⟨.int i, H, I, ⟨_, rfl⟩, q⟩
  · obtain ⟨u, rfl, r1⟩ := vals1 r
    cases r1
    exact call_int_bool ⟨.int (if k then 1 else 0), H, I.tok _, ⟨_, rfl⟩, q⟩
/-- len of a str, a bytes, a list, a tuple -/
def LenV (K : PySem.W.Frag) (x : V) (H : Hp) (n : Nat) : Prop :=
  match x with
  | .str y => y.length ≤ sizeLine ∧ n = y.length
  | .byt y => y.size ≤ sizeLine ∧ n = y.size
  | .ref p => (∃ xs, SqL K H p xs ∧ n = xs.length) ∨ ∃ xs, SqT K H p xs ∧ n = xs.length
  | _ => False
end
end L2

namespace L2
open PySem PySem.Spec PyProof.Rows

/-! ### an instance, its attributes a map -/
structure ObjM (h : Heap) (x dx C : Addr) (mA : Str → Option Value) : Prop where
  obj : h.get? x = some (PySem.W.instObj C dx)
  ns : h.Ns1 dx mA
  ne : dx ≠ x

section
variable {prog : Program} {w : World} {A : Around} {E : Value → Shared → Prop} {s : Shared} {K : PySem.W.Frag} {x dx C f : Addr} {mA : Str → Option Value} {name : Str} {v : Value}

end

/-! ### the attributes as a list of pairs -/
def putF (f : Str) (v : V) : List (Str × V) → List (Str × V)
  | [] => [(f, v)]
  | (g, x) :: r => if g = f then (g, v) :: r else (g, x) :: putF f v r
theorem RelO.some_of {v : V} {o : Option Value} (r : RelO (some v) o) : ∃ u, o = some u ∧ RelV v u := by
  cases o with
  | none => exact (show False from r).elim
  | some u => exact ⟨u, rfl, r⟩
section
variable {P : Program} {w : World} {H H' : Hp} {h h' : Heap} {a C dx : Addr} {fs fs' : List (Str × V)}
end

/-! ### what of the text a class must have -/
structure Cls (K : PySem.W.Frag) (C : Addr) : Prop where
  pg : PySem.W.plainGet K C Str.empty = true
  hd : PySem.W.hasDictIn K C = true
  po : PySem.W.plainOver K C = true
  sa : PySem.W.findIn K (.ref C) "__setattr__" = some (some (.builtin "object.__setattr__"))
theorem Cls.get {K : PySem.W.Frag} {C : Addr} (c : Cls K C) (f : Str) : PySem.W.plainGet K C f = true := c.pg
/-- no class of it has the name -/
def NoAttr (K : PySem.W.Frag) (C : Addr) (f : Str) : Prop := PySem.W.findIn K (.ref C) f = some none
/-- a constant of the class -/
structure Con (K : PySem.W.Frag) (C : Addr) (f : Str) (v : V) (u : Value) : Prop where
  at_ : PySem.W.findIn K (.ref C) f = some (some u)
  rel : RelV v u
  get : PySem.W.specialIn K u "__get__" = some none
  cp : PySem.W.copiedNames.contains f = false
/-- a method: a plain def of the class or of one above it -/
structure Meth (K : PySem.W.Frag) (C : Addr) (m : Str) (f : Addr) : Prop where
  at_ : PySem.W.findIn K (.ref C) m = some (some (.ref f))
  fn : PySem.W.isFn K (.ref f) = true
  kp : PySem.W.keepIn K (.ref f) = true

section
variable {X : Cx} {pins : List (Addr × Obj)} {σ : St} {H : Hp} {s : Shared} {a C dx : Addr} {fs : List (Str × V)} {f : Str} {v : V} {A : Around} {E : Value → Shared → Prop}

/-- a new instance, tracked, without attributes -/
theorem Inv.made (I : Inv X pins σ H s) : Inv X pins σ (upd (upd H s.heap.objs.size (.own (s.heap.objs.size + 1))) (s.heap.objs.size + 1) (.ins C s.heap.objs.size []))
    { s with heap := (s.heap.push PySem.W.emptyDict).push (PySem.W.instObj C s.heap.objs.size) } := by
  have e1 : (s.heap.push PySem.W.emptyDict).get? s.heap.objs.size = some PySem.W.emptyDict := Heap.get?_push_size s.heap rfl
  have e2 : ((s.heap.push PySem.W.emptyDict).push (PySem.W.instObj C s.heap.objs.size)).get? (s.heap.objs.size + 1) = some (PySem.W.instObj C s.heap.objs.size) := by
    have := Heap.get?_push_size (s.heap.push PySem.W.emptyDict) (o := PySem.W.instObj C s.heap.objs.size) rfl
    rwa [Heap.size_push] at this
  have e3 : (s.heap.push PySem.W.emptyDict).Ns s.heap.objs.size (fun _ => none) := ⟨PySem.W.emptyDict, #[], _, e1, rfl, (fun e he => absurd he (by simp)), fun _ => rfl⟩
  have I1 := I.laid (a := s.heap.objs.size) (o := .own (s.heap.objs.size + 1)) (h' := s.heap.push PySem.W.emptyDict) (t' := s.toks) (fun b u q => Heap.get?_push_of_some _ q) (Nat.le_refl _) ⟨_, e1⟩
  refine I1.laid (a := s.heap.objs.size + 1) (o := .ins C s.heap.objs.size []) (t' := s.toks) (fun b u q => Heap.get?_push_of_some _ q) (Nat.le_of_eq (Heap.size_push _ _)) ?_
  have ne : s.heap.objs.size ≠ s.heap.objs.size + 1 := Nat.ne_of_lt (Nat.lt_succ_self _)
  refine ⟨by rw [upd_ne ne, upd_same], Nat.zero_le _, ne, e2, fun _ => none, (Heap.Ns1.of_empty e3).at fun o q => Heap.get?_push_of_some _ q, fun _ => True.intro, fun y hy => absurd rfl hy⟩

end

/-! ### readings and rules -/
/-- e.f, an attribute of the instance -/
def tFld (K : PySem.W.Frag) (ta : TE) (f : Str) : TE := fun σ H Q => ta σ H fun x H1 => ∃ a C dx fs v, x = .ref a ∧ H1 a = some (.ins C dx fs) ∧ Cls K C ∧ NoAttr K C f ∧ fs.lookup f = some v ∧ Q v H1
/-- e.f, a constant of the class -/
def tCon (K : PySem.W.Frag) (ta : TE) (f : Str) : TE := fun σ H Q => ta σ H fun x H1 => ∃ a C dx fs v u, x = .ref a ∧ H1 a = some (.ins C dx fs) ∧ Cls K C ∧ Con K C f v u ∧ fs.lookup f = none ∧ Q v H1
/-- e.f = value -/
def sFld (K : PySem.W.Frag) (ta tv : TE) (f : Str) : TS := fun D σ H => tv σ H fun y H1 => ta σ H1 fun x H2 => ∃ a C dx fs, x = .ref a ∧ H2 a = some (.ins C dx fs) ∧ Cls K C ∧ NoAttr K C f ∧ fs.length < 1000 ∧
  D.nx σ (upd H2 a (.ins C dx (putF f y fs)))
/-- an augmented operator on two values -/
def InOp (X : Cx) (op : Operator) (rd : V → V → Hp → VK → Prop) : Prop :=
  ∀ (pins : List (Addr × Obj)) (s : Shared) (σ : St) (H : Hp) (x y : V) (u v : Value) (Q : VK), Inv X pins σ H s → RelV x u → RelV y v → rd x y H Q → wpAny (model X.prog X.w) X.A (inplaceOp op u v) (EP X pins σ Q) X.xe s
/-- e.f op= value -/
def sFldAug (K : PySem.W.Frag) (ta tv : TE) (rd : V → V → Hp → VK → Prop) (f : Str) : TS := fun D σ H => ta σ H fun x H1 => ∃ a C dx fs v, x = .ref a ∧ H1 a = some (.ins C dx fs) ∧ Cls K C ∧ NoAttr K C f ∧ fs.lookup f = some v ∧
  tv σ H1 fun y H2 => rd v y H2 fun z H3 => ∃ dx' fs', H3 a = some (.ins C dx' fs') ∧ fs'.length < 1000 ∧ D.nx σ (upd H3 a (.ins C dx' (putF f z fs')))

section
variable {X : Cx} {o e value : Expr} {f : Str} {pos pos' tpos : Pos} {ta tv : TE}
def rAdd : V → V → Hp → VK → Prop := fun x y H Q => ∃ i j, x = .int i ∧ y = .int j ∧ Q (.int (i + j)) H
def rSub : V → V → Hp → VK → Prop := fun x y H Q => ∃ i j, x = .int i ∧ y = .int j ∧ Q (.int (i - j)) H
end

/-! ### isinstance -/
section
variable {X : Cx} {pins : List (Addr × Obj)} {σ : St} {H : Hp} {s : Shared} {A : Around} {E : Value → Shared → Prop} {Q : Value → Shared → Prop} {c : Value} {b : Bool}
/-- the type of a value, as the fragment's deciders take it; for an instance its class -/
inductive TyOf (K : PySem.W.Frag) (H : Hp) : V → Value → Prop where
  | non : TyOf K H .non (.type "NoneType")
  | bl (x : Bool) : TyOf K H (.bl x) (.type "bool")
  | int (i : Int) : TyOf K H (.int i) (.type "int")
  | str (x : Str) : TyOf K H (.str x) (.type "str")
  | flt (x : UInt64) : TyOf K H (.flt x) (.type "float")
  | lst {a : Addr} {xs : List V} (e : H a = some (.lst xs)) : TyOf K H (.ref a) (.type "list")
  | frz {a : Addr} {o : Obj} {xs : List V} (e : H a = some (.frz o (.lst xs))) : TyOf K H (.ref a) (.type "list")
  | tup {a : Addr} {xs : List V} (e : H a = some (.tup xs)) : TyOf K H (.ref a) (.type "tuple")
  | dK {a : Addr} {kvs : List (Key × V)} (e : H a = some (.dK kvs)) : TyOf K H (.ref a) (.type "dict")
  | dT {a : Addr} {kvs : List (List Key × V)} (e : H a = some (.dT kvs)) : TyOf K H (.ref a) (.type "dict")
  | ins {a C dx : Addr} {fs : List (Str × V)} (e : H a = some (.ins C dx fs)) (cl : Cls K C) (ha : PySem.W.findIn K (.ref C) "__class__" = some (some (.builtin "object.__class__")))
      (hn : PySem.W.specialIn K (.builtin "object.__class__") "__get__" = some (some (.builtin "getset_descriptor.__get__"))) (htk : PySem.W.takesIn K (.builtin "object.__class__") = some true)
      (hm : PySem.W.mroIn K C (.type "object") = some true) : TyOf K H (.ref a) (.ref C)
end
end L2

namespace L2
open PySem PySem.Spec PyProof.Rows

/-! ### room -/
structure Room (k : Nat) (A : Around) : Prop where
  hd : A.handled = none
  dp : A.depth + 3 * k + 5 < recursionLimit
  un : A.units + 16 * k + 200 < cLine
theorem Room.mono {j k : Nat} {A : Around} (r : Room k A) (h : j ≤ k) : Room j A := ⟨r.hd, by have := r.dp; omega, by have := r.un; omega⟩
theorem Room.deeper {k : Nat} {A : Around} (r : Room (k + 1) A) (env : Env) : Room k (A.deeper env) :=
  ⟨r.hd, by have := r.dp; show A.depth + 1 + 3 * k + 5 < _; omega, by have := r.un; show A.units + 3 + 16 * k + 200 < _; omega⟩
theorem Room.in1 {k : Nat} {A : Around} (r : Room (k + 1) A) : Room k A.in1 :=
  ⟨r.hd, by have := r.dp; show A.depth + 3 * k + 5 < _; omega, by have := r.un; show A.units + 1 + 16 * k + 200 < _; omega⟩
theorem Room.depth {k : Nat} {A : Around} (r : Room k A) : A.depth < recursionLimit := by have := r.dp; omega
theorem Room.units {k : Nat} {A : Around} (r : Room k A) : A.units + 64 < cLine := by have := r.un; omega
theorem Room.units0 {k : Nat} {A : Around} (r : Room k A) : A.units < cLine := by have := r.un; omega

/-! ### argument lists and displays -/
def tNil : TA := fun _ H Q => Q [] H
def tCons (ta : TE) (tr : TA) : TA := fun σ H Q => ta σ H fun x H1 => tr σ H1 fun xs H2 => Q (x :: xs) H2
section
variable {X : Cx} {e : Expr} {es : List Expr} {te : TE} {t : TA} {pos : Pos}
theorem pa_nil : PA X [] tNil := fun _ _ _ _ H Q I h => Calls.spliced_nil ⟨[], H, I, .nil, h⟩
theorem pa_cons (ha : PE X e te) (hr : PA X es t) (hs : starEach (e :: es) X.env = (false, eval e X.env) :: starEach es X.env := by rfl) : PA X (e :: es) (tCons te t) := by
  intro pos pins s σ H Q I h
  rw [hs]
  show wpAny _ _ (spliced ((false, eval e X.env) :: backTo pos (starEach es X.env))) _ _ s
  refine Calls.spliced_cons (thn (ha pins s σ H _ I h) fun u s1 ⟨x, H1, I1, r1, q1⟩ => ?_)
  exact thn (hr pos pins s1 σ H1 _ I1 q1) fun us s2 ⟨xs, H2, I2, r2, q2⟩ => ⟨x :: xs, H2, I2, .cons r1 r2, q2⟩

/-- a tuple, a list of written items -/
def tTup (t : TA) : TE := fun σ H Q => t σ H fun xs H1 => xs.length ≤ sizeLine ∧ ∀ p, H1 p = none → Q (.ref p) (upd H1 p (.tup xs))
def tLst (t : TA) : TE := fun σ H Q => t σ H fun xs H1 => xs.length ≤ sizeLine ∧ ∀ p, H1 p = none → Q (.ref p) (upd H1 p (.lst xs))
theorem pe_tup {x1} (h : PA X es t) : PE X (.Tuple es x1 pos) (tTup t) := by
  intro pins s σ H Q I hq
  refine wpAny_Tuple_spliced (thn (h pos pins s σ H _ I hq) fun us s1 ⟨xs, H1, I1, r, z, q⟩ => ⟨by rw [← r.length]; exact z, ?_⟩)
  have hf : H1 s1.heap.objs.size = none := I1.hok.fresh (Nat.le_refl _)
  refine ⟨.ref s1.heap.objs.size, upd H1 s1.heap.objs.size (.tup xs), I1.laid (t' := s1.toks) (fun b u e => Heap.get?_push_of_some _ e) (Nat.le_refl _) ?_, rfl, q _ hf⟩
  exact ⟨z, us, r, ⟨_, Heap.get?_push_size _ rfl, rfl, _, rfl⟩⟩
theorem pe_lst (h : PA X es t) : PE X (.List es pos) (tLst t) := by
  intro pins s σ H Q I hq
  refine wpAny_List_spliced (thn (h pos pins s σ H _ I hq) fun us s1 ⟨xs, H1, I1, r, z, q⟩ => ⟨by rw [← r.length]; exact z, ?_⟩)
  have hf : H1 s1.heap.objs.size = none := I1.hok.fresh (Nat.le_refl _)
  refine ⟨.ref s1.heap.objs.size, upd H1 s1.heap.objs.size (.lst xs), I1.laid (t' := s1.toks) (fun b u e => Heap.get?_push_of_some _ e) (Nat.le_refl _) ?_, rfl, q _ hf⟩
  exact ⟨z, us, 0, r, Heap.get?_push_size _ rfl⟩
end

/-! ### what a def promises -/
/-- a def's promise: the bound arguments in the parameters' order, the heap, the wanted end, the wanted exception -/
abbrev Sp := List V → Hp → VK → XK → Prop
/-- how an exception lies behind a call (file 08 gives it): the callers' frames, abstract heap and state ahead of the call, the wish, the exception, the state -/
abbrev CXT := List Env → Hp → Shared → XK → Value → Shared → Prop

/-- the state at a call -/
structure Env0 (P : Program) (w : World) (K : PySem.W.Frag) (mg : Str → Option Value) (base : Heap) (A : Around) (outer : List Env) (s : Shared) (H : Hp) : Prop where
  frames : A.frames = some outer
  mod : Mod K mg base
  bs : ∀ b o, base.get? b = some o → s.heap.get? b = some o ∧ H b = none
  bsz : base.objs.size ≤ s.heap.objs.size
  funs : s.heap.FunFrames base outer
  frf : ∀ b ∈ frs outer, H b = none
  hok : HOk P w H s.heap
  bare : AllBare s.gens
/-- a call's end -/
def CE (outer : List Env) (P : Program) (w : World) (H : Hp) (s : Shared) (Q : VK) (u : Value) (s' : Shared) : Prop :=
  ∃ v H', s'.os = s.os ∧ AllBare s'.gens ∧ Un (frs outer) [] H H' s.heap s'.heap ∧ HOk P w H' s'.heap ∧ RelV v u ∧ Q v H'
def CR (CX : CXT) (outer : List Env) (P : Program) (w : World) (H : Hp) (s : Shared) (Q : VK) (E : XK) (r : Result) (s' : Shared) : Prop :=
  match r with
  | .ok (.ret u) => CE outer P w H s Q u s'
  | .ok _ => False
  | .error e => CX outer H s E e s'
structure FnOk (P : Program) (w : World) (K : PySem.W.Frag) (mg : Str → Option Value) (base : Heap) (CX : CXT) (k : Nat) (f : Addr) (fd : FuncData) (ps : List Str) (sp : Sp) : Prop where
  len : ∀ vs H Q E, sp vs H Q E → vs.length = ps.length
  run : ∀ (A : Around) (outer : List Env) (s : Shared) (H : Hp) (args : Args) (us : List Value) (vs : List V) (Q : VK) (E : XK), Room k A → Env0 P w K mg base A outer s H → BindsTo s fd args (ps.zip us) → Vals vs us → sp vs H Q E →
    codeAny (model P w) A (.call (.ref f) args) (CR CX outer P w H s Q E) s
theorem FnOk.mono {P : Program} {w : World} {K : PySem.W.Frag} {mg : Str → Option Value} {base : Heap} {CX : CXT} {j k : Nat} {f : Addr} {fd : FuncData} {ps : List Str} {sp : Sp} (F : FnOk P w K mg base CX j f fd ps sp) (h : j ≤ k) :
    FnOk P w K mg base CX k f fd ps sp := ⟨F.len, fun A outer s H args us vs Q E hr => F.run A outer s H args us vs Q E (hr.mono h)⟩
/-- a weaker promise -/
theorem FnOk.imp {P : Program} {w : World} {K : PySem.W.Frag} {mg : Str → Option Value} {base : Heap} {CX : CXT} {k : Nat} {f : Addr} {fd : FuncData} {ps : List Str} {sp sp' : Sp} (F : FnOk P w K mg base CX k f fd ps sp)
    (h : ∀ vs H Q E, sp' vs H Q E → sp vs H Q E) : FnOk P w K mg base CX k f fd ps sp' :=
  ⟨fun vs H Q E q => F.len vs H Q E (h _ _ _ _ q), fun A outer s H args us vs Q E hr he hb hv hs => F.run A outer s H args us vs Q E hr he hb hv (h _ _ _ _ hs)⟩

theorem Env0.in1 {P : Program} {w : World} {K : PySem.W.Frag} {mg : Str → Option Value} {base : Heap} {A : Around} {outer : List Env} {s : Shared} {H : Hp} (e : Env0 P w K mg base A outer s H) :
    Env0 P w K mg base A.in1 outer s H := ⟨e.frames, e.mod, e.bs, e.bsz, e.funs, e.frf, e.hok, e.bare⟩

section
variable {X : Cx} {pins : List (Addr × Obj)} {σ : St} {H : Hp} {s s' : Shared}
/-- from a body: what a callee wants -/
theorem Inv.env0 (I : Inv X pins σ H s) : Env0 X.prog X.w X.K X.mg X.base X.A X.stack s H :=
  ⟨I.ok.frames, I.ok.mod, I.bs, Nat.le_trans I.ok.bsz I.sz, I.stack, I.stkFree, I.hok, I.bare⟩
/-- behind a call -/
theorem Inv.after {Q : VK} {u : Value} (I : Inv X pins σ H s) (h : CE X.stack X.prog X.w H s Q u s') : EP X pins σ Q u s' := by
  obtain ⟨v, H', os, bare, un, hok, r, q⟩ := h
  obtain ⟨hh, g, d, t, os'⟩ := s'
  obtain rfl : os' = s.os := os
  exact ⟨v, H', I.call (h' := hh) (g' := g) (d' := d) (t' := t) (ch := []) un hok bare (fun b z => absurd z (by simp)), r, q⟩
end

/-! ### calls -/
/-- f(..): the written arguments, then the defaults dvs; E: what is wanted of an exception -/
def tCall (sp : Sp) (dvs : List V) (E : XK) (t : TA) : TE := fun σ H Q => t σ H fun vs H1 => sp (vs ++ dvs) H1 Q E
/-- o.m(..) of an instance of the class at C -/
def tMeth (C : Addr) (m : Str) (sp : Sp) (dvs : List V) (E : XK) (ta : TE) (t : TA) : TE := fun σ H Q => ta σ H fun x H1 => ∃ a dx fs, x = .ref a ∧ H1 a = some (.ins C dx fs) ∧ fs.lookup m = none ∧
  t σ H1 fun vs H2 => sp (x :: (vs ++ dvs)) H2 Q E
/-- C(..): a new instance and its dict, then __init__ -/
def tMake (C : Addr) (sp : Sp) (dvs : List V) (E : XK) (t : TA) : TE := fun σ H Q => t σ H fun vs H1 => ∀ x dx, H1 x = none → H1 dx = none → dx ≠ x →
  sp (.ref x :: (vs ++ dvs)) (upd (upd H1 dx (.own x)) x (.ins C dx [])) (fun v H2 => v = .non ∧ Q (.ref x) H2) E

/-- how the parameters are bound: us the positional arguments, kw the keywords' values by name, ds the defaults that fill up -/
def Binds (K : PySem.W.Frag) (fd : FuncData) (ps : List Str) (ds : List Value) : Prop :=
  ∀ (s : Shared) (us : List Value), K.In s.heap → (us ++ ds).length = ps.length → BindsTo s fd ⟨us, []⟩ (ps.zip (us ++ ds))
/-- every parameter is given -/
theorem Binds.all {K : PySem.W.Frag} {fd : FuncData} {ps : List Str} (h : ∀ us : List Value, us.length = ps.length → bindArgs fd ⟨us, []⟩ = pure (ps.zip us)) : Binds K fd ps [] := fun s us _ hl => by
  rw [List.append_nil] at hl ⊢
  exact .of_eq (h us hl)

/-- an exception of a callee reaches what this body wants of exceptions -/
def Passes (CX : CXT) (X : Cx) (E : XK) : Prop := ∀ (pins : List (Addr × Obj)) (σ : St) (H : Hp) (s : Shared) (e : Value) (s' : Shared), Inv X pins σ H s → CX X.stack H s E e s' → X.xe e s'

section
variable {X : Cx} {CX : CXT} {k : Nat} {f C : Addr} {fd : FuncData} {ps : List Str} {sp : Sp} {dvs : List V} {ds : List Value} {E : XK} {x m : Str} {p pos apos : Pos} {e o : Expr} {es : List Expr} {ta : TE} {t : TA}

/-- the callee runs -/
theorem run_fn {pins : List (Addr × Obj)} {σ : St} {H : Hp} {s : Shared} {Q : VK} {us : List Value} {vs : List V} (F : FnOk X.prog X.w X.K X.mg X.base CX k f fd ps sp) (hr : Room k X.A) (hb : Binds X.K fd ps ds) (hd : Vals dvs ds) (hx : Passes CX X E)
    (I : Inv X pins σ H s) (r : Vals vs us) (h : sp (vs ++ dvs) H Q E) : wpAny (model X.prog X.w) X.A (call (.ref f) us) (EP X pins σ Q) X.xe s := by
  have r2 : Vals (vs ++ dvs) (us ++ ds) := r.append hd
  have hl : (us ++ ds).length = ps.length := by rw [← r2.length]; exact F.len _ _ _ _ h
  refine wpAny_call (codeAny_mono (F.run X.A X.stack s H ⟨us, []⟩ (us ++ ds) (vs ++ dvs) Q E hr I.env0 (hb s us I.kIn hl) r2 h) fun r s' hq => ?_)
  cases r with
  | error e => exact hx pins σ H s e s' I hq
  | ok fl =>
    cases fl with
    | ret u => exact I.after hq
    | next => exact False.elim hq
    | brk => exact False.elim hq
    | cont => exact False.elim hq

theorem pe_call (F : FnOk X.prog X.w X.K X.mg X.base CX k f fd ps sp) (hr : Room k X.A) (hg : Gl X x) (hm : X.mg x = some (.ref f)) (hk : PySem.W.keepIn X.K (.ref f) = true) (hb : Binds X.K fd ps ds) (hd : Vals dvs ds) (hx : Passes CX X E)
    (ha : PA X (e :: es) t) (hdb : (x == ("__debug__" : Str)) = false := by decide) (he : starEach (e :: es) X.env = (false, eval e X.env) :: starEach es X.env := by rfl) (hpl : (backTo pos (starEach es X.env)).any (·.1) = false := by rfl) :
    PE X (.Call (.Name x p) (e :: es) [] pos) (tCall sp dvs E t) := by
  intro pins s σ H Q I h
  refine wpAny_Call_Name_kw (ld_glob I hg hm ?_ hdb)
  refine PySem.W.callWith_K (h₀ := X.base) I.ok.mod.kin hk (thn (ha pos pins s σ H _ I h) fun us s1 ⟨vs, H1, I1, r, q⟩ => ⟨I1.kIn, ?_⟩) he hpl
  exact run_fn F hr hb hd hx I1 r q
/-- what a class must have to be made -/
structure Mk (K : PySem.W.Frag) (C f : Addr) : Prop where
  makes : PySem.W.makesIn K C = true
  init : PySem.W.findIn K (.ref C) "__init__" = some (some (.ref f))
  fn : PySem.W.isFn K (.ref f) = true
  kp : PySem.W.keepIn K (.ref C) = true

end

/-! ### keywords -/
/-- the values of the keywords, from the left -/
def PK (X : Cx) (kws : List Keyword) (t : TA) : Prop :=
  ∀ (pos : Pos) (pins : List (Addr × Obj)) (s : Shared) (σ : St) (H : Hp) (Q : List V → Hp → Prop), Inv X pins σ H s → t σ H Q → wpAny (model X.prog X.w) X.A (evalAll ((backToKw pos (keywordEach kws X.env)).map (·.2))) (AP X pins σ Q) X.xe s
section
variable {X : Cx} {CX : CXT} {k : Nat} {f C : Addr} {fd : FuncData} {ps ks : List Str} {sp : Sp} {E : XK} {x m : Str} {p pos apos kpos : Pos} {e o : Expr} {es : List Expr} {kws : List Keyword} {te ta : TE} {t tk : TA} {nm : Option Str}
/-- how a call with keywords binds: g puts the positional values us and the keywords' values ws (names ks) in the parameters' order, defaults among them -/
structure KBinds (K : PySem.W.Frag) (fd : FuncData) (ps ks : List Str) (g : List Value → List Value → List Value) (gV : List V → List V → List V) : Prop where
  to : ∀ (s : Shared) (us ws : List Value), K.In s.heap → (g us ws).length = ps.length → BindsTo s fd ⟨us, ks.zip ws⟩ (ps.zip (g us ws))
  rel : ∀ {vs : List V} {us : List Value} {zs : List V} {ws : List Value}, Vals vs us → Vals zs ws → Vals (gV vs zs) (g us ws)
def tCallK (sp : Sp) (gV : List V → List V → List V) (E : XK) (t tk : TA) : TE := fun σ H Q => t σ H fun vs H1 => tk σ H1 fun zs H2 => sp (gV vs zs) H2 Q E
variable {g : List Value → List Value → List Value} {gV : List V → List V → List V}
end

/-! ### a def's body keeps its promise -/
/-- names: the parameters first -/
structure FnScope (N P : List Str) (sc : Scope) : Prop where
  kind : sc.kind = .function
  co : sc.isCoroutine = false
  gen : sc.isGenerator = false
  nd : N.Nodup
  pre : N.take P.length = P
  par : ∀ x ∈ P, sc.names.lookup x = some .local ∨ sc.names.lookup x = some .cell
  nofree : ∀ y ∈ sc.names, y.2 ≠ .free

theorem bindL_out {kindOf : Str → Option NameKind} {x : Str} : ∀ {binds : List (Str × Value)} {m : Str → Option Value}, (∀ v, (x, v) ∉ binds) → bindL kindOf binds m x = m x
  | [], _, _ => rfl
  | (n, v) :: r, m, h => by
    unfold bindL
    rw [bindL_out fun w hw => h w (List.mem_cons_of_mem _ hw)]
    split
    · have : x ≠ n := by rintro rfl; exact h v List.mem_cons_self
      simp [this]
    · rfl
theorem bindC_out {kindOf : Str → Option NameKind} {x : Str} : ∀ {binds : List (Str × Value)} {m : Str → Option Value}, (∀ v, (x, v) ∉ binds) → bindC kindOf binds m x = m x
  | [], _, _ => rfl
  | (n, v) :: r, m, h => by
    unfold bindC
    rw [bindC_out fun w hw => h w (List.mem_cons_of_mem _ hw)]
    split
    · rfl
    · have : x ≠ n := by rintro rfl; exact h v List.mem_cons_self
      simp [this]
theorem bindL_get {kindOf : Str → Option NameKind} {x : Str} {v : Value} : ∀ {P : List Str} {vs : List Value} {i : Nat} {m : Str → Option Value}, P.Nodup → P[i]? = some x → vs[i]? = some v → kindOf x = some .local →
    bindL kindOf (P.zip vs) m x = some v
  | [], _, _, _, _, h, _, _ => by simp at h
  | _ :: _, [], _, _, _, _, h, _ => by simp at h
  | p :: P, w :: vs, 0, m, nd, h1, h2, hk => by
    simp at h1 h2; subst h1; subst h2
    show bindL kindOf ((p, w) :: P.zip vs) m p = _
    unfold bindL
    rw [bindL_out fun v hv => (List.nodup_cons.mp nd).1 (List.of_mem_zip hv).1, if_pos hk]
    simp
  | p :: P, w :: vs, i + 1, m, nd, h1, h2, hk => by
    show bindL kindOf ((p, w) :: P.zip vs) m x = _
    unfold bindL
    exact bindL_get (i := i) (List.nodup_cons.mp nd).2 (by simpa using h1) (by simpa using h2) hk
theorem bindC_get {kindOf : Str → Option NameKind} {x : Str} {v : Value} : ∀ {P : List Str} {vs : List Value} {i : Nat} {m : Str → Option Value}, P.Nodup → P[i]? = some x → vs[i]? = some v → kindOf x ≠ some .local →
    bindC kindOf (P.zip vs) m x = some v
  | [], _, _, _, _, h, _, _ => by simp at h
  | _ :: _, [], _, _, _, _, h, _ => by simp at h
  | p :: P, w :: vs, 0, m, nd, h1, h2, hk => by
    simp at h1 h2; subst h1; subst h2
    show bindC kindOf ((p, w) :: P.zip vs) m p = _
    unfold bindC
    rw [bindC_out fun v hv => (List.nodup_cons.mp nd).1 (List.of_mem_zip hv).1, if_neg hk]
    simp
  | p :: P, w :: vs, i + 1, m, nd, h1, h2, hk => by
    show bindC kindOf ((p, w) :: P.zip vs) m x = _
    unfold bindC
    exact bindC_get (i := i) (List.nodup_cons.mp nd).2 (by simpa using h1) (by simpa using h2) hk

/-- the names' values at the entry -/
def start (N : List Str) (vs : List V) : St := vs.map some ++ List.replicate (N.length - vs.length) none

/-- the context of a def's body, at its entry; an exception leaves the frame, then lies as CX says -/
def cxOf (CX : CXT) (P : Program) (w : World) (K : PySem.W.Frag) (mg : Str → Option Value) (base : Heap) (N : List Str) (qual : Str) (scope : Scope) (f : Addr) (cd : Value) (A : Around) (outer : List Env) (s : Shared) (H : Hp) (E : XK) : Cx where
  prog := P
  w := w
  K := K
  mg := mg
  base := base
  A := A.deeper (envOfC qual scope s.heap.objs.size f cd)
  N := N
  s₀ := s
  H₀ := H
  env := envOfC qual scope s.heap.objs.size f cd
  outer := outer
  stack := envOfC qual scope s.heap.objs.size f cd :: outer
  ex := []
  calm := true
  fn := fun _ => true
  pn := []
  xe := fun e s' => wpAny (model P w) (A.deeper (envOfC qual scope s.heap.objs.size f cd)) (leaving (envOfC qual scope s.heap.objs.size f cd) e) (fun _ s'' => CX outer H s E e s'') (fun e' s'' => CX outer H s E e' s'') s'

theorem cell_has {sc : Scope} {n : Nat} {x : Str} (h : sc.names.lookup x = some .cell) : ∃ c, (cellsFrom n sc.names []).lookup x = some c := by
  have q := PySem.W.cellsFrom_some sc.names n [] (.inl h)
  exact Option.isSome_iff_exists.mp q

theorem inv_start {CX : CXT} {P : Program} {w : World} {K : PySem.W.Frag} {mg : Str → Option Value} {base : Heap} {N ps : List Str} {qual : Str} {scope : Scope} {f : Addr} {cd : Value} {A : Around} {outer : List Env} {s s1 : Shared} {H : Hp} {E : XK} {us : List Value} {vs : List V}
    (S : FnScope N ps scope) (hd : A.handled = none) (e0 : Env0 P w K mg base A outer s H) (hl : vs.length = ps.length) (r : Vals vs us)
    (x : InCallC s s.heap.objs.size (bindL (envOfC qual scope s.heap.objs.size f cd).kindOf (ps.zip us) fun _ => none) (cellsFrom (s.heap.objs.size + 1) scope.names []) (bindC (envOfC qual scope s.heap.objs.size f cd).kindOf (ps.zip us) fun _ => none) s1) :
    Inv (cxOf CX P w K mg base N qual scope f cd A outer s H E) [] (start N vs) H s1 := by
  have hpl : ps.length ≤ N.length := by have := congrArg List.length S.pre; rw [List.length_take] at this; omega
  obtain ⟨h1, tk, rfl, hk⟩ := x.done
  have noA : ∀ b : Addr, b ∉ (cxOf CX P w K mg base N qual scope f cd A outer s H E).ex := fun b z => absurd (show b ∈ ([] : List Addr) from z) (by simp)
  refine ⟨⟨e0.mod, S.kind, rfl, rfl, Nat.le_refl _, fun y z c h1 h2 => ?_, fun y hy => ?_, fun y c _ h => ?_, fun _ => hd, Around.frames_deeper e0.frames, .inr ⟨rfl, rfl⟩, fun b z => absurd z (noA b), e0.bs, e0.bsz, fun b _ _ => noA b, fun b z => absurd z (noA b), e0.funs, e0.frf⟩,
    rfl, e0.bare, Un.kept hk, ⟨_, x.toInCall.ns, fun i y v h1 h2 h3 => ?_⟩, fun y c h => ⟨_, x.cell y c h⟩, e0.hok.fresh (Nat.le_refl _), fun y c h => ?_, fun p hp => absurd (show p ∈ ([] : List (Addr × Obj)) from hp) (by simp), e0.hok.kept hk, ?_⟩
  · exact name_of_addr x.apart (PySem.mem_of_lookup h1) (PySem.mem_of_lookup h2)
  · have hy : scope.names.lookup y = some .cell ∨ scope.names.lookup y = some .free := hy
    rcases hy with hy | hy
    · exact cell_has hy
    · exact absurd rfl (S.nofree _ (PySem.mem_of_lookup hy))
  · exact Nat.le_of_lt (x.above y c (PySem.mem_of_lookup h))
  · have hi : i < vs.length := by
      unfold start at h2
      by_cases hi : i < vs.length
      · exact hi
      · rw [List.getElem?_append_right (by simpa using hi)] at h2
        rw [List.getElem?_replicate] at h2
        split at h2 <;> cases h2
    have ha : vs[i]? = some v := by
      unfold start at h2
      rw [List.getElem?_append_left (by simpa using hi), List.getElem?_map] at h2
      cases e : vs[i]? with
      | none => rw [e] at h2; cases h2
      | some a => rw [e] at h2; cases h2; rfl
    obtain ⟨u, hu, rv⟩ := r.get ha
    have hp : ps[i]? = some y := by
      rw [← S.pre, List.getElem?_take_of_lt (by omega)]; exact h1
    have ndP : ps.Nodup := by rw [← S.pre]; exact S.nd.sublist (List.take_sublist _ _)
    refine ⟨u, rv, ?_⟩
    rcases S.par y (List.mem_of_getElem? hp) with k | k
    · exact .inl ⟨k, bindL_get ndP hp hu k⟩
    · obtain ⟨c, e⟩ := cell_has (n := s.heap.objs.size + 1) k
      refine .inr ⟨.inl k, c, e, ?_⟩
      have q := x.cell y c e
      rw [bindC_get ndP hp hu (by show scope.names.lookup y ≠ _; rw [k]; decide)] at q
      exact q
  · exact e0.hok.fresh (Nat.le_of_lt (x.above y c (PySem.mem_of_lookup h)))
  · unfold start
    show _ = N.length
    rw [List.length_append, List.length_map, List.length_replicate]
    omega

/-- THE RULE: a def (or a method) of the text, by its body. The body's reading t is chosen for each entry; it is run at the parameters' values -/
theorem fn_of {CX : CXT} {P : Program} {w : World} {K : PySem.W.Frag} {mg : Str → Option Value} {base : Heap} {k : Nat} {f : Addr} {name qual : Str} {params : Arguments} {body : List Stmt} {scope : Scope} {dV kV doc pm cdv ct oc : Value} {an od : Option Addr}
    {osl : Array (Option Value)} {N ps : List Str} {sp : Sp} (lk : K.lookup f = some ⟨oc, od, .func (PySem.W.fnOf name qual params body scope dV kV doc pm an cdv ct), osl⟩) (hcd : PySem.W.codeIn K cdv qual = true) (S : FnScope N ps scope)
    (len : ∀ vs H Q E, sp vs H Q E → vs.length = ps.length)
    (hbody : ∀ (A : Around) (outer : List Env) (s : Shared) (H : Hp) (vs : List V) (Q : VK) (E : XK), Room k (A.deeper (envOfC qual scope s.heap.objs.size f cdv)) → sp vs H Q E →
      ∃ t, PSs (cxOf CX P w K mg base N qual scope f cdv A outer s H E) body t ∧ t { nx := fun _ H' => Q .non H', rt := Q } (start N vs) H) :
    FnOk P w K mg base CX (k + 1) f (PySem.W.fnOf name qual params body scope dV kV doc pm an cdv ct) ps sp := by
  refine ⟨len, fun A outer s H args us vs Q E hr e0 hb r hsp => ?_⟩
  have hl := len _ _ _ _ hsp
  have KX : K.In s.heap := e0.mod.kin.keeps fun b o e => (e0.bs b o e).1
  have lim : s.heap.NoLimit := e0.mod.nolimit.keeps fun b o e => (e0.bs b o e).1
  have hkind : ∀ y ∈ ps.zip us, scope.names.lookup y.1 = some .local ∨ (scope.names.lookup y.1 = some .cell ∧ ((cellsFrom (s.heap.objs.size + 1) scope.names []).lookup y.1).isSome = true) := fun ⟨n, v⟩ hy => by
    rcases S.par n (List.of_mem_zip hy).1 with q | q
    · exact .inl q
    · exact .inr ⟨q, PySem.W.cellsFrom_some _ _ _ (.inl q)⟩
  refine codeAny_call_function hr.depth (KX _ _ lk) rfl S.co S.gen rfl (PySem.W.codeRec_of KX hcd) (hb _ _ _ _ ?_)
  refine wpAny_newFunctionEnv_cells S.kind hkind fun env he s1 x => ?_
  subst he
  refine ⟨lim.keeps x.toInCall.keep, codeAny_func ?_⟩
  obtain ⟨t, ht, hq⟩ := hbody A outer s H vs Q E (hr.deeper _) hsp
  have I : Inv (cxOf CX P w K mg base N qual scope f cdv A outer s H E) [] (start N vs) H s1 := inv_start S hr.hd e0 hl r x
  refine wpAny_mono (ht [] s1 (start N vs) H _ I hq) (fun fl s' hs => ?_) fun e s' hs => hs
  have fin : ∀ {σ' : St} {H' : Hp} {v : V} {u : Value}, Inv (cxOf CX P w K mg base N qual scope f cdv A outer s H E) [] σ' H' s' → RelV v u → Q v H' → CE outer P w H s Q u s' :=
    fun {σ' H' v u} J rv q => ⟨v, H', J.os, J.bare, J.base, J.hok, rv, q⟩
  cases fl with
  | ret u =>
    obtain ⟨v, σ', H', J, rv, q⟩ := hs
    exact fin J rv q
  | next =>
    obtain ⟨σ', H', J, q⟩ := hs
    exact fin (v := V.non) (u := Value.none) J rfl q
  | brk =>
    obtain ⟨_, _, _, q⟩ := hs
    exact False.elim q
  | cont =>
    obtain ⟨_, _, _, q⟩ := hs
    exact False.elim q
end L2

namespace L2
open PySem PySem.Spec PyProof.Rows
section
variable {X : Cx} {x : Str} {p pos : Pos} {e : Expr} {es : List Expr} {t : TA} {id T : String} {r : List V → Hp → VK → Prop}

def tCB (r : List V → Hp → VK → Prop) (t : TA) : TE := fun σ H Q => t σ H fun vs H1 => r vs H1 Q
/-- f(e, ..), f a built-in function -/
theorem pe_callB (hc : CallR X (.builtin id) r) (hg : Gl X x) (hm : X.mg x = none) (hv : bootBuiltins x = some (.builtin id)) (ha : PA X (e :: es) t) (hn : x ≠ "__name__" := by decide) (hdb : (x == ("__debug__" : Str)) = false := by decide)
    (he : starEach (e :: es) X.env = (false, eval e X.env) :: starEach es X.env := by rfl) (hpl : (backTo pos (starEach es X.env)).any (·.1) = false := by rfl) : PE X (.Call (.Name x p) (e :: es) [] pos) (tCB r t) := by
  intro pins s σ H Q I h
  refine wpAny_Call_Name_kw (ld_blt I hg hm hv ?_ hn hdb)
  exact PyProof.Rows.callWith_builtin1 (thn (ha pos pins s σ H _ I h) fun us s1 ⟨vs, H1, I1, r1, q1⟩ => hc pins s1 σ H1 vs us Q I1 r1 q1) he hpl
/-- T(e, ..), T a built-in type -/
theorem pe_callTy (hc : CallR X (.type T) r) (hg : Gl X x) (hm : X.mg x = none) (hv : bootBuiltins x = some (.type T)) (ha : PA X (e :: es) t) (hn : x ≠ "__name__" := by decide) (hdb : (x == ("__debug__" : Str)) = false := by decide)
    (he : starEach (e :: es) X.env = (false, eval e X.env) :: starEach es X.env := by rfl) (hpl : (backTo pos (starEach es X.env)).any (·.1) = false := by rfl) : PE X (.Call (.Name x p) (e :: es) [] pos) (tCB r t) := by
  intro pins s σ H Q I h
  refine wpAny_Call_Name_kw (ld_blt I hg hm hv ?_ hn hdb)
  exact PyProof.Rows.callWith_type1 (thn (ha pos pins s σ H _ I h) fun us s1 ⟨vs, H1, I1, r1, q1⟩ => hc pins s1 σ H1 vs us Q I1 r1 q1) he hpl
end
end L2

namespace HT
open PySem PyProof.Rows

/-- t < u of tuples of ints -/
def lexLt : List Int → List Int → Bool
  | [], [] => false
  | [], _ :: _ => true
  | _ :: _, [] => false
  | x :: xs, y :: ys => if x = y then lexLt xs ys else decide (x < y)
theorem eqAt_int (A : Around) (s : Shared) (a : Int) (t : Tok) (c : Int) (u : Tok) : ∃ e, SeqAt.EqAt A s (.int a t) (.int c u) e ∧ (e = true ↔ a = c) :=
  ⟨(a == c), SeqAt.EqAt.int_int a t c u, by simp⟩
theorem rcLt_int (A : Around) (s : Shared) (a : Int) (t : Tok) (c : Int) (u : Tok) (prog : Program) (w : World) (E : Value → Shared → Prop) (Q : Value → Shared → Prop) (h : Q (.bool (decide (a < c))) s) :
    wpAny (model prog w) A (richCompare .Lt (.int a t) (.int c u)) Q E s :=
  (PyProof.Rows.lt_int h : wpAny (model prog w) A (compareOp .Lt (.int a t) (.int c u)) Q E s)

section
open PySem.SeqAt
open PySem.AutoSeq1 (wpAny_loadPart')
open PySem.MeetsSeq PySem.MeetsSeq2 PySem.MeetsSeq3

end

section
variable {prog : Program} {w : World} {A : Around} {E : Value → Shared → Prop} {s : Shared}

/-- t + u, t not empty -/
theorem cat_tup {t b : Addr} {vs ws : List Value} {Q : Value → Shared → Prop} (ht : IsTup s.heap t vs.toArray) (hb : IsTup s.heap b ws.toArray) (hv : vs ≠ [])
    (h1 : ws = [] → Q (.ref t) s) (h2 : ws ≠ [] → Q (.ref s.heap.objs.size) { s with heap := s.heap.push { cls := .type "tuple", data := .seq (vs ++ ws).toArray } })
    (hsz : vs.length + ws.length ≤ sizeLine) : wpAny (model prog w) A (binaryOp .Add (.ref t) (.ref b)) Q E s := by
  obtain ⟨⟨cls, dd, data, sl⟩, ho, hc, n, hd⟩ := id ht
  obtain ⟨⟨cls2, dd2, data2, sl2⟩, ho2, hc2, n2, hd2⟩ := id hb
  simp only at hc hd hc2 hd2
  subst hc hd hc2 hd2
  have e : vs.toArray ++ ws.toArray = (vs ++ ws).toArray := by simp
  by_cases hw : ws = []
  · exact concat_meets ⟨_, ho, rfl⟩ ⟨_, ho2, rfl⟩ noFill_tuple_add seq_tuple_add PySem.F.slot_tuple_add PySem.F.entry_tuple_add (PySem.F.args_tuple_add_2 _ _)
      (tuple_addW1 t b vs.toArray ws.toArray n n2 dd dd2 sl sl2 (by simpa using hv) (by simp [hw])) ⟨ho, ho2, h1 hw⟩
  · refine concat_meets ⟨_, ho, rfl⟩ ⟨_, ho2, rfl⟩ noFill_tuple_add seq_tuple_add PySem.F.slot_tuple_add PySem.F.entry_tuple_add (PySem.F.args_tuple_add_2 _ _)
      (tuple_addW2 t b vs.toArray ws.toArray n n2 dd dd2 sl sl2 (by simpa using hv) (by simpa using hw) (by rw [List.size_toArray, List.size_toArray]; exact hsz)) ⟨ho, ho2, ?_⟩
    rw [e]
    exact h2 hw

/-! ### t[a:b], not the whole -/
/-- a slice's bound as a place among n (d where it is left out) -/
def sIx (n d : Nat) : Option Int → Nat
  | none => d
  | some v => if v < 0 then (v + (n : Int)).toNat else min v.toNat n
theorem sIx_none (n d : Nat) : sIx n d none = d := rfl
theorem sIx_nat (n d k : Nat) : sIx n d (some (k : Int)) = min k n := by
  show (if (k : Int) < 0 then ((k : Int) + (n : Int)).toNat else min (k : Int).toNat n) = min k n
  rw [if_neg (by omega), Int.toNat_natCast]
end
end HT

namespace L2
open PySem PySem.Spec PyProof.Rows

/-! ### the parts of a slice -/
abbrev TO := St → Hp → (Option Int → Hp → Prop) → Prop
/-- a slice's part (left out, or an int) -/
def PO (X : Cx) (e : Option Expr) (t : TO) : Prop :=
  ∀ (pins : List (Addr × Obj)) (s : Shared) (σ : St) (H : Hp) (Q : Option Int → Hp → Prop), Inv X pins σ H s → t σ H Q →
    wpAny (model X.prog X.w) X.A (evalPart e X.env) (fun u s' => ∃ o H', Inv X pins σ H' s' ∧ IsPart u o ∧ Q o H') X.xe s
def tNoPart : TO := fun _ H Q => Q none H
def tPart (t : TE) : TO := fun σ H Q => t σ H fun x H1 => ∃ i, x = .int i ∧ Q (some i) H1

section
variable {X : Cx} {e : Expr} {te : TE} {lo hi : Option Expr} {tl th : TO} {pos p2 : Pos}

theorem po_none : PO X none tNoPart := by
  intro pins s σ H Q I h
  rw [evalPart_none]
  exact wpAny_pure ⟨none, H, I, .none, h⟩
theorem po_some (h : PE X e te) : PO X (some e) (tPart te) := by
  intro pins s σ H Q I hw
  rw [evalPart_some]
  refine thn (h pins s σ H _ I hw) fun u s1 ⟨x, H1, I1, r1, q1⟩ => ?_
  obtain ⟨i, rfl, q⟩ := q1
  obtain ⟨t, rfl⟩ := r1
  exact ⟨some i, H1, I1, .int i t, q⟩

/-- what a slice of a value is, by values: the slice object stands at sl -/
def SlR (X : Cx) (r : V → Option Int → Option Int → Hp → VK → Prop) : Prop :=
  ∀ (pins : List (Addr × Obj)) (s : Shared) (σ : St) (H : Hp) (x : V) (v vl vu : Value) (lo hi : Option Int) (sl : Addr) (Q : VK), Inv X pins σ H s → RelV x v → s.heap.IsSliceOf sl vl vu .none → IsPart vl lo → IsPart vu hi → r x lo hi H Q →
    ∃ T id, typeLookup (.type T) "__getitem__" = pure (some (.builtin id)) ∧ s.TypeIs v T ∧ wpAny (model X.prog X.w) X.A (getItem v (.ref sl)) (EP X pins σ Q) X.xe s
theorem SlR.or {r r' : V → Option Int → Option Int → Hp → VK → Prop} (h : SlR X r) (h' : SlR X r') : SlR X (fun x lo hi H Q => r x lo hi H Q ∨ r' x lo hi H Q) := by
  intro pins s σ H x v vl vu lo hi sl Q I rx hs pl pu q
  rcases q with q | q
  · exact h pins s σ H x v vl vu lo hi sl Q I rx hs pl pu q
  · exact h' pins s σ H x v vl vu lo hi sl Q I rx hs pl pu q
def tSl (r : V → Option Int → Option Int → Hp → VK → Prop) (te : TE) (tl th : TO) : TE := fun σ H Q => te σ H fun x H1 => tl σ H1 fun l H2 => th σ H2 fun u H3 => r x l u H3 Q
/-- a[lo:hi], any a -/
theorem pe_slice {r : V → Option Int → Option Int → Hp → VK → Prop} (hr : SlR X r) (he : PE X e te) (hl : PO X lo tl) (hu : PO X hi th) : PE X (.Subscript e (.Slice lo hi none p2) pos) (tSl r te tl th) := by
  intro pins s σ H Q I h
  refine Subscript_ (thn (he pins s σ H _ I h) fun v s1 ⟨x, H1, I1, r1, q1⟩ => ?_)
  refine wpAny_Slice (thn (hl pins s1 σ H1 _ I1 q1) fun vl s2 ⟨l, H2, I2, pl, q2⟩ => thn (hu pins s2 σ H2 _ I2 q2) fun vu s3 ⟨u, H3, I3, pu, q3⟩ => ?_)
  rw [evalPart_none]
  refine wpAny_pure ?_
  have I4 : Inv X pins σ H3 { s3 with heap := s3.heap.push { cls := .type "slice", data := .fields #[vl, vu, .none] } } := I3.kept (t' := s3.toks) fun b ob q => Heap.get?_push_of_some _ q
  obtain ⟨T, id, hT, ht, hg⟩ := hr pins { s3 with heap := s3.heap.push { cls := .type "slice", data := .fields #[vl, vu, .none] } } σ H3 x v vl vu l u s3.heap.objs.size Q I4 r1 (Heap.IsSliceOf.new ..) pl pu q3
  show wpAny (model X.prog X.w) X.A (subscriptTail e (.Slice lo hi none p2) v (.ref s3.heap.objs.size)) (EP X pins σ Q) X.xe { s3 with heap := s3.heap.push { cls := .type "slice", data := .fields #[vl, vu, .none] } }
  exact tail_any (ops := [.ref s3.heap.objs.size, v]) ht hT hg (by with_unfolding_all rfl)

/-- the items of xs[lo:hi] -/
def cutV (xs : List V) (lo hi : Option Int) : List V := (xs.drop (HT.sIx xs.length 0 lo)).take (HT.sIx xs.length xs.length hi - HT.sIx xs.length 0 lo)
theorem cutV_length (xs : List V) (lo hi : Option Int) : (cutV xs lo hi).length ≤ xs.length := by
  unfold cutV
  rw [List.length_take, List.length_drop]
  omega
/-- t[lo:hi], not the whole of it (the whole would be t itself) -/
def rSlT (K : PySem.W.Frag) : V → Option Int → Option Int → Hp → VK → Prop := fun x lo hi H Q => ∃ a xs, x = .ref a ∧ SqT K H a xs ∧
  ¬ (HT.sIx xs.length 0 lo = 0 ∧ HT.sIx xs.length xs.length hi = xs.length) ∧ ∀ p, H p = none → Q (.ref p) (upd H p (.tup (cutV xs lo hi)))
/-! ### t < u, t + u -/
def rLtT (K : PySem.W.Frag) : R2 := fun x y H Q => ∃ a b ns ms, x = .ref a ∧ y = .ref b ∧ SqT K H a (ns.map V.int) ∧ SqT K H b (ms.map V.int) ∧ Q (.bl (HT.lexLt ns ms)) H
/-- t + u, t not empty: u empty gives t itself -/
def rCatT (K : PySem.W.Frag) : R2 := fun x y H Q => ∃ a b xs ys, x = .ref a ∧ y = .ref b ∧ SqT K H a xs ∧ SqT K H b ys ∧ xs ≠ [] ∧ xs.length + ys.length ≤ sizeLine ∧
  (ys = [] → Q (.ref a) H) ∧ (ys ≠ [] → ∀ p, H p = none → Q (.ref p) (upd H p (.tup (xs ++ ys))))
theorem Vals.nil_iff {xs : List V} {us : List Value} (r : Vals xs us) : us = [] ↔ xs = [] := by
  cases r with
  | nil => simp
  | cons _ _ => simp
theorem op_catT : OpR X (binaryOp .Add) (rCatT X.K) := by
  intro pins s σ H x y v u Q I rx ry h
  obtain ⟨a, b, xs, ys, rfl, rfl, ha, hb, hx, hz, q1, q2⟩ := h
  cases rx
  cases ry
  obtain ⟨its, r1, p1, _⟩ := I.tuple ha
  obtain ⟨its2, r2, p2, _⟩ := I.tuple hb
  refine HT.cat_tup p1 p2 (fun z => hx (r1.nil_iff.mp z)) (fun z => ⟨.ref a, H, I, rfl, q1 (r2.nil_iff.mp z)⟩) (fun z => ?_) (by rw [← r1.length, ← r2.length]; exact hz)
  refine ⟨.ref s.heap.objs.size, _, I.laid (t' := s.toks) (o := .tup (xs ++ ys)) (fun b ob q => Heap.get?_push_of_some _ q) (Nat.le_refl _) ?_, rfl, q2 (fun w => z (r2.nil_iff.mpr w)) _ (I.hok.fresh (Nat.le_refl _))⟩
  exact ⟨by rw [List.length_append]; exact hz, _, r1.append r2, IsTup.new _ _⟩
end
end L2

namespace L2
open PySem PySem.Spec PyProof.Rows

/-! ### places -/
/-- the place that an index of any sign means -/
def ixN (n : Nat) (i : Int) : Option Nat := if 0 ≤ i then (if i < n then some i.toNat else none) else if -(n : Int) ≤ i then some (i + n).toNat else none
def atI {α : Type} (xs : List α) (i : Int) : Option α := (ixN xs.length i).bind fun j => xs[j]?
theorem ixN_seq {n : Nat} {i : Int} {j : Nat} (h : ixN n i = some j) : seqIndex? i n = some j ∧ j < n ∧ -(n : Int) ≤ i ∧ i < n := by
  unfold ixN at h
  by_cases h0 : 0 ≤ i
  · rw [if_pos h0] at h
    by_cases h1 : i < n
    · rw [if_pos h1] at h
      have e : i.toNat = j := Option.some.inj h
      exact ⟨by rw [seqIndex_of h0 h1, e], by omega, by omega, h1⟩
    · rw [if_neg h1] at h; cases h
  · rw [if_neg h0] at h
    by_cases h1 : -(n : Int) ≤ i
    · rw [if_pos h1] at h
      have e : (i + n).toNat = j := Option.some.inj h
      exact ⟨by rw [seqIndex_neg (by omega) h1, e], by omega, h1, by omega⟩
    · rw [if_neg h1] at h; cases h
theorem atI_get {α : Type} {xs : List α} {i : Int} {v : α} (h : atI xs i = some v) : ∃ j, seqIndex? i xs.length = some j ∧ xs[j]? = some v ∧ j < xs.length ∧ -(xs.length : Int) ≤ i ∧ i < xs.length := by
  unfold atI at h
  cases e : ixN xs.length i with
  | none => rw [e] at h; cases h
  | some j =>
    rw [e] at h
    obtain ⟨h1, h2, h3, h4⟩ := ixN_seq e
    exact ⟨j, h1, h, h2, h3, h4⟩
theorem atI_nat {α : Type} {xs : List α} {j : Nat} {v : α} (h : xs[j]? = some v) : atI xs (j : Int) = some v := by
  have hj : j < xs.length := (List.getElem?_eq_some_iff.mp h).1
  have e : ixN xs.length (j : Int) = some j := by
    unfold ixN
    rw [if_pos (by omega), if_pos (by omega)]; simp
  unfold atI; rw [e]; exact h
theorem atI_last {α : Type} (xs : List α) (v : α) : atI (xs ++ [v]) (-1) = some v := by
  have hl : (xs ++ [v]).length = xs.length + 1 := by simp
  have e : ixN (xs ++ [v]).length (-1) = some xs.length := by
    unfold ixN
    rw [hl, if_neg (by decide), if_pos (by omega)]
    congr 1
    omega
  unfold atI
  rw [e]
  show (xs ++ [v])[xs.length]? = some v
  simp

/-! ### what may be subscripted -/
/-- what stands as an index of a plain subscript -/
def PlainIx (b : Expr) : Prop := ∀ o i, subscripted b false o i = operate [o, i] (getItem o i)
/-- a subscript by values -/
def IxR (X : Cx) (r : R2) : Prop :=
  ∀ (value slice : Expr) (pins : List (Addr × Obj)) (s : Shared) (σ : St) (H : Hp) (x y : V) (v u : Value) (Q : VK), Inv X pins σ H s → RelV x v → RelV y u → r x y H Q →
    subscripted slice false v u = operate [v, u] (getItem v u) → wpAny (model X.prog X.w) X.A (subscriptTail value slice v u) (EP X pins σ Q) X.xe s
/-- a call of a builtin's method by values: the receiver, the arguments -/
def MtR (X : Cx) (id : String) (r : V → List V → Hp → VK → Prop) : Prop :=
  ∀ (pins : List (Addr × Obj)) (s : Shared) (σ : St) (H : Hp) (x : V) (xs : List V) (v : Value) (us : List Value) (Q : VK), Inv X pins σ H s → RelV x v → Vals xs us → r x xs H Q →
    wpAny (model X.prog X.w) X.A (call (.builtin id) (v :: us)) (EP X pins σ Q) X.xe s
section
variable {X : Cx} {a b : Expr} {ta tb : TE} {pos : Pos}
theorem IxR.or {r r' : R2} (h : IxR X r) (h' : IxR X r') : IxR X (fun x y H Q => r x y H Q ∨ r' x y H Q) := by
  intro value slice pins s σ H x y v u Q I rx ry q hs
  rcases q with q | q
  · exact h value slice pins s σ H x y v u Q I rx ry q hs
  · exact h' value slice pins s σ H x y v u Q I rx ry q hs
theorem MtR.or {id : String} {r r' : V → List V → Hp → VK → Prop} (h : MtR X id r) (h' : MtR X id r') : MtR X id (fun x xs H Q => r x xs H Q ∨ r' x xs H Q) := by
  intro pins s σ H x xs v us Q I rx rs q
  rcases q with q | q
  · exact h pins s σ H x xs v us Q I rx rs q
  · exact h' pins s σ H x xs v us Q I rx rs q
/-- a[b] -/
theorem pe_ix {r : R2} (hr : IxR X r) (ha : PE X a ta) (hb : PE X b tb) (hs : PlainIx b) : PE X (.Subscript a b pos) (tOp r ta tb) := by
  intro pins s σ H Q I h
  exact Subscript_ (binT ha hb I h fun v u s2 x y H2 I2 rx ry q => hr a b pins s2 σ H2 x y v u Q I2 rx ry q (hs _ _))

def rIxL (K : PySem.W.Frag) : R2 := fun x y H Q => ∃ p xs i v, x = .ref p ∧ y = .int i ∧ SqL K H p xs ∧ atI xs i = some v ∧ Q v H
def rIxT (K : PySem.W.Frag) : R2 := fun x y H Q => ∃ p xs i v, x = .ref p ∧ y = .int i ∧ SqT K H p xs ∧ atI xs i = some v ∧ Q v H
def rIxS : R2 := fun x y H Q => ∃ z i c, x = .str z ∧ y = .int i ∧ z.length ≤ sizeLine ∧ atI z.cps.toList i = some c ∧ Q (.str ⟨#[c]⟩) H
theorem ix_list : IxR X (rIxL X.K) := by
  intro value slice pins s σ H x y v u Q I rx ry h hs
  obtain ⟨p, xs, i, z, rfl, rfl, hq, he, q⟩ := h
  cases rx
  obtain ⟨t, rfl⟩ := ry
  obtain ⟨its, r, pl, hz⟩ := I.list hq
  obtain ⟨j, h1, h2, h3, h4, h5⟩ := atI_get he
  obtain ⟨w, ew, rw'⟩ := r.get h2
  have hl := r.length
  have hn := line63
  have fin : EP X pins σ Q w s := ⟨z, H, I, rw', q⟩
  by_cases h0 : 0 ≤ i
  · have hj : i.toNat = j := by
      rw [seqIndex_of h0 h5] at h1
      exact Option.some.inj h1
    exact item_listR pl.isList h0 (by omega) (by rw [hj]; simpa using ew) fin hs
  · have hj : (i + (its.toArray.size : Int)).toNat = j := by
      rw [seqIndex_neg (by omega) h4] at h1
      rw [List.size_toArray, ← hl]
      exact Option.some.inj h1
    exact subscriptTail_builtinR (x := w) pl.isList.typeIs slot_list_getitem.lookup
      (wpAny_getItem_list_neg (Q := fun r s' => r = w ∧ EP X pins σ Q r s') pl.isList (by omega) (by rw [List.size_toArray] <;> omega) (by omega) (by rw [hj]; simpa using ew) ⟨rfl, fin⟩) hs
theorem ix_tup : IxR X (rIxT X.K) := by
  intro value slice pins s σ H x y v u Q I rx ry h hs
  obtain ⟨p, xs, i, z, rfl, rfl, hq, he, q⟩ := h
  cases rx
  obtain ⟨t, rfl⟩ := ry
  obtain ⟨its, r, pl, hz⟩ := I.tuple hq
  obtain ⟨j, h1, h2, h3, h4, h5⟩ := atI_get he
  obtain ⟨w, ew, rw'⟩ := r.get h2
  have hl := r.length
  have hn := line63
  have fin : EP X pins σ Q w s := ⟨z, H, I, rw', q⟩
  exact subscriptTail_builtinR (x := w) pl.typeIs slot_tuple_getitem.lookup
    (getItem_tuple (j := j) (Q := fun r s' => r = w ∧ EP X pins σ Q r s') pl (by omega) (by omega) (by rw [List.size_toArray, ← hl]; exact h1) (by simpa using ew) ⟨rfl, fin⟩) hs
theorem ix_str : IxR X rIxS := by
  intro value slice pins s σ H x y v u Q I rx ry h hs
  obtain ⟨z, i, c, rfl, rfl, hz, he, q⟩ := h
  obtain ⟨t, rfl⟩ := rx
  obtain ⟨t', rfl⟩ := ry
  obtain ⟨j, h1, h2, h3, h4, h5⟩ := atI_get he
  have hl : z.cps.toList.length = z.length := by simp [Str.length]
  rw [hl] at h1 h4 h5
  have hn := line63
  exact tail_any (typeIs_str s z t) slot_str_getitem.lookup (getItem_str (c := c) (by
    have e1 : decide (i < -(2 ^ 63 : Int)) = false := decide_eq_false (by omega)
    have e2 : decide (i ≥ 2 ^ 63) = false := decide_eq_false (by omega)
    rw [e1, e2, Bool.or_false]) (by rw [h1]; simpa using h2) ⟨.str ⟨#[c]⟩, H, I.tok _, ⟨_, rfl⟩, q⟩) hs
/-- list, tuple or str -/
def rIx (K : PySem.W.Frag) : R2 := fun x y H Q => rIxL K x y H Q ∨ rIxT K x y H Q ∨ rIxS x y H Q
/-! ### xs[i] = v, any sign -/
theorem Inv.lst {pins : List (Addr × Obj)} {σ : St} {H : Hp} {s : Shared} {p : Addr} {xs : List V} (I : Inv X pins σ H s) (h : H p = some (.lst xs)) :
    ∃ (its : List Value) (n : Nat), Vals xs its ∧ s.heap.get? p = some { cls := .type "list", data := .seq its.toArray n } ∧ xs.length ≤ sizeLine := by
  obtain ⟨z, its, n, r, e⟩ := I.hok p _ h
  exact ⟨its, n, r, e, z⟩
def rSetL : V → V → V → Hp → (Hp → Prop) → Prop := fun o i v H Q => ∃ p xs k j, o = .ref p ∧ i = .int k ∧ H p = some (.lst xs) ∧ ixN xs.length k = some j ∧ Q (upd H p (.lst (xs.set j v)))
/-! ### slices -/
theorem slice_bounds (lo hi : Option Int) (n : Nat) : (sliceBounds lo hi none n).1 = ((HT.sIx n 0 lo : Nat) : Int) ∧ (sliceBounds lo hi none n).2.1 = ((HT.sIx n n hi : Nat) : Int) ∧ (sliceBounds lo hi none n).2.2 = 1 := by
  refine ⟨?_, ?_, rfl⟩
  · cases lo with
    | none => simp [sliceBounds, HT.sIx]
    | some i =>
      simp only [sliceBounds, HT.sIx, Option.getD_none, show (1 : Int) > 0 by decide, if_true]
      by_cases h : i < 0
      · simp only [h, if_true] <;> omega
      · simp only [h, if_false] <;> omega
  · cases hi with
    | none => simp [sliceBounds, HT.sIx]
    | some i =>
      simp only [sliceBounds, HT.sIx, Option.getD_none, show (1 : Int) > 0 by decide, if_true]
      by_cases h : i < 0
      · simp only [h, if_true] <;> omega
      · simp only [h, if_false] <;> omega
theorem slicePick_cut (its : List Value) (lo hi : Option Int) : slicePick its.toArray lo hi none = ((its.drop (HT.sIx its.length 0 lo)).take (HT.sIx its.length its.length hi - HT.sIx its.length 0 lo)).toArray := by
  obtain ⟨h1, h2, h3⟩ := slice_bounds lo hi its.toArray.size
  unfold slicePick
  rw [h1, h2, h3]
  simp only [sliceRange_one, pick_run, List.size_toArray] <;> rfl
/-- xs[lo:hi] of a list: a new list -/
def rSlL (K : PySem.W.Frag) : V → Option Int → Option Int → Hp → VK → Prop := fun x lo hi H Q => ∃ a xs, x = .ref a ∧ SqL K H a xs ∧ ∀ p, H p = none → Q (.ref p) (upd H p (.lst (cutV xs lo hi)))
theorem sl_list : SlR X (rSlL X.K) := by
  intro pins s σ H x v vl vu lo hi sl Q I rx hs pl pu h
  obtain ⟨a, xs, rfl, hx, q⟩ := h
  cases rx
  obtain ⟨its, r, ht, hz⟩ := I.list hx
  have hlen := r.length
  refine ⟨"list", _, slot_list_getitem.lookup, ht.isList.typeIs, ?_⟩
  refine wpAny_getItem_list_slice ht.isList hs pl pu .none (by simp) ?_ (by rw [List.size_toArray] <;> omega)
  rw [slicePick_cut, ← hlen]
  refine ⟨.ref s.heap.objs.size, _, I.laid (t' := s.toks) (o := .lst (cutV xs lo hi)) (fun b ob q => Heap.get?_push_of_some _ q) (Nat.le_refl _) ?_, rfl, q _ (I.hok.fresh (Nat.le_refl _))⟩
  exact ⟨Nat.le_trans (cutV_length xs lo hi) hz, _, 0, (r.drop (HT.sIx xs.length 0 lo)).take (HT.sIx xs.length xs.length hi - HT.sIx xs.length 0 lo), Heap.get?_push_size _ rfl⟩

/-! ### in, not in: flat items -/
def flatV : V → Bool
  | .non => true
  | .bl _ => true
  | .int _ => true
  | .str _ => true
  | _ => false
/-- == of flat values -/
def eqV : V → V → Bool
  | .non, .non => true
  | .bl a, .bl b => a == b
  | .bl a, .int b => (if a then 1 else 0) == b
  | .int a, .bl b => a == (if b then 1 else 0)
  | .int a, .int b => a == b
  | .str a, .str b => a == b
  | _, _ => false
/-- the items' answers, read off the values (a value's own answer does not lean on its token) -/
def eqU (x : V) (u : Value) : Bool := match u with
  | .none => eqV .non x
  | .bool b => eqV (.bl b) x
  | .int i _ => eqV (.int i) x
  | .str z _ => eqV (.str z) x
  | _ => false
def inV (x : V) (xs : List V) : Bool := xs.any fun y => eqV y x
/-- x in a list or tuple of flat items -/
def rIn (K : PySem.W.Frag) (neg : Bool) : R2 := fun x y H Q => ∃ p xs, y = .ref p ∧ (SqL K H p xs ∨ SqT K H p xs) ∧ flatV x = true ∧ xs.all flatV = true ∧ Q (.bl (if neg then !inV x xs else inV x xs)) H
/-! ### len, list(x), tuple(x) of any list or tuple that is read -/
theorem call_len_seq : CallR X (.builtin "len") (fun xs H Q => ∃ p ys, xs = [.ref p] ∧ (SqL X.K H p ys ∨ SqT X.K H p ys) ∧ Q (.int ys.length) H) := by
  intro pins s σ H xs us Q I r h
  obtain ⟨p, ys, rfl, hq, q⟩ := h
  obtain ⟨u, rfl, rx⟩ := vals1 r
  cases rx
  have hn := line63
  rcases hq with hq | hq
  · obtain ⟨its, r', pl, hz⟩ := I.list hq
    have hlen := r'.length
    exact Calls.call_len_list pl.isList (by simp only [List.size_toArray] <;> omega) ⟨.int ys.length, H, I.tok _, ⟨s.toks + 1, by rw [List.size_toArray, hlen]⟩, q⟩
  · obtain ⟨its, r', pl, hz⟩ := I.tuple hq
    have hlen := r'.length
    exact len_tuple pl (by simp only [List.size_toArray] <;> omega) ⟨.int ys.length, H, I.tok _, ⟨s.toks + 1, by rw [List.size_toArray, hlen]⟩, q⟩
theorem CallR.or {f : Value} {r r' : List V → Hp → VK → Prop} (h : CallR X f r) (h' : CallR X f r') : CallR X f (fun xs H Q => r xs H Q ∨ r' xs H Q) := by
  intro pins s σ H xs us Q I rs q
  rcases q with q | q
  · exact h pins s σ H xs us Q I rs q
  · exact h' pins s σ H xs us Q I rs q
theorem call_list_of : CallR X (.type "list") (fun xs H Q => ∃ p ys, xs = [.ref p] ∧ (SqL X.K H p ys ∨ SqT X.K H p ys) ∧ ∀ l, H l = none → Q (.ref l) (upd H l (.lst ys))) := by
  intro pins s σ H xs us Q I r h
  obtain ⟨p, ys, rfl, hq, q⟩ := h
  obtain ⟨u, rfl, rx⟩ := vals1 r
  cases rx
  have fin : ∀ (its : List Value), Vals ys its → ys.length ≤ sizeLine → ∀ (h' : Heap) (c' : Nat), (∀ b o', s.heap.get? b = some o' → h'.get? b = some o') →
      h'.get? s.heap.objs.size = some { cls := .type "list", dict := none, data := .seq its.toArray c', slots := #[] } → EP X pins σ Q (.ref s.heap.objs.size) { s with heap := h' } := fun its r' hz h' c' kp e =>
    ⟨.ref s.heap.objs.size, _, I.laid (t' := s.toks) kp (Nat.le_refl _) (show ObjOk X.prog X.w _ h' _ (.lst ys) from ⟨hz, its, c', r', e⟩), rfl, q _ (I.hok.fresh (Nat.le_refl _))⟩
  rcases hq with hq | hq
  · obtain ⟨its, r', pl, hz⟩ := I.list hq
    have hlen := r'.length
    obtain ⟨o, ho, hc, n, hd⟩ := pl.isList
    exact call_list_seq p (.inl rfl) ho hc hd (fun h' c' kp e => fin its r' hz h' c' kp e) (by simp only [List.size_toArray] <;> omega)
  · obtain ⟨its, r', pl, hz⟩ := I.tuple hq
    have hlen := r'.length
    obtain ⟨o, ho, hc, n, hd⟩ := pl
    exact call_list_seq p (.inr rfl) ho hc hd (fun h' c' kp e => fin its r' hz h' c' kp e) (by simp only [List.size_toArray] <;> omega)
theorem call_tuple_of : CallR X (.type "tuple") (fun xs H Q => ∃ p ys, xs = [.ref p] ∧ ((SqL X.K H p ys ∧ ∀ l, H l = none → Q (.ref l) (upd H l (.tup ys))) ∨ (SqT X.K H p ys ∧ Q (.ref p) H))) := by
  intro pins s σ H xs us Q I r h
  obtain ⟨p, ys, rfl, h⟩ := h
  obtain ⟨u, rfl, rx⟩ := vals1 r
  cases rx
  rcases h with ⟨hq, q⟩ | ⟨hq, q⟩
  · obtain ⟨its, r', pl, hz⟩ := I.list hq
    have hlen := r'.length
    refine call_tuple_list pl.isList (fun h' kp => ?_) (by simp only [List.size_toArray] <;> omega)
    have I1 : Inv X pins σ H { s with heap := h' } := I.kept (t' := s.toks) kp
    have I2 : Inv X pins σ (upd H h'.objs.size (.tup ys)) { s with heap := h'.push { cls := .type "tuple", data := .seq its.toArray } } :=
      I1.laid (t' := s.toks) (fun b o e => Heap.get?_push_of_some _ e) (Nat.le_refl _) (show ObjOk X.prog X.w _ _ _ (.tup ys) from ⟨hz, its, r', IsTup.new _ _⟩)
    exact ⟨.ref h'.objs.size, _, I2, rfl, q _ (I1.hok.fresh (Nat.le_refl _))⟩
  · obtain ⟨its, r', pl, hz⟩ := I.tuple hq
    exact call_tuple_same pl ⟨.ref p, H, I, rfl, q⟩

/-! ### the call of a builtin's method: o.m(..) -/
/-- the value is of that builtin type -/
def tyV (K : PySem.W.Frag) (T : String) (x : V) (H : Hp) : Prop := match x with
  | .str _ => T = "str"
  | .int _ => T = "int"
  | .ref p => (T = "list" ∧ ∃ xs, SqL K H p xs) ∨ (T = "tuple" ∧ ∃ o, K.lookup p = some o ∧ o.cls = .type "tuple" ∧ o.dict = none) ∨
      (T = "dict" ∧ ((∃ kvs, H p = some (.dK kvs)) ∨ ∃ kvs, H p = some (.dT kvs))) ∨ (T = "set" ∧ ∃ S n, H p = some (.set S n))
  | _ => False
theorem tyV_is {pins : List (Addr × Obj)} {σ : St} {H : Hp} {s : Shared} {T : String} {x : V} {v : Value} (I : Inv X pins σ H s) (r : RelV x v) (ty : tyV X.K T x H) :
    s.TypeIs v T ∧ ∀ a, v = .ref a → ∃ ob, s.heap.get? a = some ob ∧ ob.dict = none := by
  cases x with
  | str z =>
    obtain ⟨t, rfl⟩ := r
    cases (show T = "str" from ty)
    exact ⟨typeIs_str s z t, fun _ e => nomatch e⟩
  | int i =>
    obtain ⟨t, rfl⟩ := r
    cases (show T = "int" from ty)
    exact ⟨typeIs_int s i t, fun _ e => nomatch e⟩
  | ref p =>
    cases r
    rcases ty with ⟨rfl, xs, hq⟩ | ⟨rfl, o, hk, hc, hd⟩ | ⟨rfl, hk⟩ | ⟨rfl, S, n, hk⟩
    · obtain ⟨its, _, pl, _⟩ := I.list hq
      refine ⟨pl.isList.typeIs, fun a e => ?_⟩
      cases e
      obtain ⟨o, n, e, c, hd, _⟩ := pl
      exact ⟨o, e, hd⟩
    · refine ⟨⟨o, I.kIn p o hk, hc⟩, fun a e => ?_⟩
      cases e
      exact ⟨o, I.kIn _ o hk, hd⟩
    · have z : ∃ o, s.heap.get? p = some o ∧ o.ExactDict := by
        rcases hk with ⟨kvs, hk⟩ | ⟨kvs, hk⟩
        · obtain ⟨_, _, _, _, o, _, _, e, ex, _⟩ := I.hok p _ hk
          exact ⟨o, e, ex⟩
        · obtain ⟨_, _, _, _, o, _, _, e, ex, _⟩ := I.hok p _ hk
          exact ⟨o, e, ex⟩
      obtain ⟨o, e, ex⟩ := z
      refine ⟨⟨o, e, ex.1⟩, fun a e2 => ?_⟩
      cases e2
      exact ⟨o, e, ex.2.1⟩
    · obtain ⟨o, _, _, _, e, ex, _⟩ := I.hok p _ hk
      refine ⟨⟨o, e, ex.1⟩, fun a e2 => ?_⟩
      cases e2
      exact ⟨o, e, ex.2.1⟩
  | _ => exact False.elim ty
def tBM0 (K : PySem.W.Frag) (T : String) (r : V → List V → Hp → VK → Prop) (to : TE) : TE := fun σ H Q => to σ H fun x H1 => tyV K T x H1 ∧ r x [] H1 Q
def tBM (K : PySem.W.Frag) (T : String) (r : V → List V → Hp → VK → Prop) (to : TE) (t : TA) : TE := fun σ H Q => to σ H fun x H1 => tyV K T x H1 ∧ t σ H1 fun xs H2 => r x xs H2 Q
variable {o e : Expr} {es : List Expr} {to : TE} {t : TA} {name : Str} {apos cpos : Pos} {T id : String} {r : V → List V → Hp → VK → Prop}
theorem pe_bm (pa : PlainAttrs T) (slot : Slot T name id) (hty : typeOf (.builtin id) = pure (.type "method_descriptor")) (hm : MtR X id r) (ho : PE X o to) (ha : PA X (e :: es) t)
    (hbase : attributeBase o name X.env (eval o X.env) = eval o X.env := by rfl)
    (hfew : ((backTo cpos (starEach (e :: es) X.env)).all (fun x => !x.1) && (backToKw cpos (keywordEach [] X.env)).all (fun x => x.1.isSome)
      && decide ((e :: es).length + ([] : List Keyword).length + (if ([] : List Keyword).isEmpty then 0 else 1) < 30)) = true := by rfl)
    (hline : (apos.endLine == cpos.line) = true := by rfl) (hs : starEach (e :: es) X.env = (false, eval e X.env) :: starEach es X.env := by rfl) (hplain : (backTo cpos (starEach es X.env)).any (·.1) = false := by rfl) :
    PE X (.Call (.Attribute o name apos) (e :: es) [] cpos) (tBM X.K T r to t) := by
  intro pins s σ H Q I h
  refine wpAny_Call_method_late hbase hfew hline rfl (thn (ho pins s σ H _ I h) fun v s1 ⟨x, H1, I1, r1, ty, q1⟩ => ?_)
  obtain ⟨h1, h2⟩ := tyV_is I1 r1 ty
  refine ⟨T, id, pa, slot, hty, h1, h2, ?_⟩
  have hA := ha cpos pins s1 σ H1 _ I1 q1
  rw [hs] at hA ⊢
  refine Calls.callWith_builtin (by show (false || (backTo cpos (starEach es X.env)).any (·.1)) = false; rw [hplain] <;> rfl) (Calls.evalArgs_plain ?_)
  exact thn hA fun us s2 ⟨vs, H2, I2, r2, q2⟩ => hm pins s2 σ H2 x vs v us Q I2 r1 r2 q2
/- xs.append(e), list.index on a module's tuple .. are MtR facts of 06m -/
end
end L2

namespace L2
open PySem PySem.Spec PyProof.Rows

def MtM (X : Cx) (id : String) (r : V → List V → Hp → VK → Prop) : Prop :=
  ∀ (pins : List (Addr × Obj)) (s : Shared) (σ : St) (H : Hp) (x : V) (xs : List V) (v : Value) (us : List Value) (Q : VK), Inv X pins σ H s → RelV x v → Vals xs us → r x xs H Q →
    wpAny (model X.prog X.w) X.A (call (.builtin id) (v :: us)) (EP X pins σ Q) X.xe s

/-! ### lists of values -/
theorem Vals.one : ∀ {x : V} {us : List Value}, Vals [x] us → ∃ u, us = [u] ∧ RelV x u
  | _, _, .cons r .nil => ⟨_, rfl, r⟩
theorem Vals.two : ∀ {x y : V} {us : List Value}, Vals [x, y] us → ∃ u v, us = [u, v] ∧ RelV x u ∧ RelV y v
  | _, _, _, .cons r (.cons q .nil) => ⟨_, _, rfl, r, q⟩
theorem Vals.zero : ∀ {us : List Value}, Vals [] us → us = []
  | _, .nil => rfl
theorem Vals.dropLast {xs : List V} {us : List Value} (h : Vals xs us) : Vals xs.dropLast us.dropLast := by
  induction h with
  | nil => exact .nil
  | cons r t ih =>
    cases t with
    | nil => exact .nil
    | cons q t' => exact .cons r ih
theorem Vals.eraseIdx : ∀ {xs : List V} {us : List Value} (i : Nat), Vals xs us → Vals (xs.eraseIdx i) (us.eraseIdx i)
  | _, _, _, .nil => .nil
  | _, _, 0, .cons _ t => t
  | _, _, i + 1, .cons r t => .cons r (Vals.eraseIdx i t)
theorem Vals.reverse {xs : List V} {us : List Value} (h : Vals xs us) : Vals xs.reverse us.reverse := by
  induction h with
  | nil => exact .nil
  | cons r t ih => rw [List.reverse_cons, List.reverse_cons]; exact Vals.append ih (.cons r .nil)
section
variable {X : Cx} {pins : List (Addr × Obj)} {σ : St} {H : Hp} {s : Shared} {l b : Addr} {xs ys zs : List V}

/-! ### the two steps: a tracked list is rewritten, a new list is laid -/
theorem Inv.lset {its its' : List Value} {n : Nat} {f : Array Value → Array Value} {t' : Nat} (I : Inv X pins σ H s) (hH : H l = some (.lst xs))
    (e : s.heap.get? l = some { cls := .type "list", data := .seq its.toArray n }) (hf : f its.toArray = its'.toArray) (hv : Vals ys its') (hz : ys.length ≤ sizeLine) :
    Inv X pins σ (upd H l (.lst ys)) { s with heap := s.heap.update l (Obj.mapSeq f), toks := t' } := by
  have q := PySem.IsL.update e f
  rw [hf] at q
  refine I.write (x := l) (e := l) (by rw [hH]; exact trivial) (.inl rfl) (fun b' u hb hu => (Heap.get?_update_other s.heap (Obj.mapSeq f) (Ne.symm hb)).trans hu) ⟨_, q⟩ ?_
  exact ⟨hz, its', _, hv, q⟩
theorem Inv.lnew {its : List Value} {t' : Nat} (I : Inv X pins σ H s) (hv : Vals ys its) (hz : ys.length ≤ sizeLine) :
    Inv X pins σ (upd H s.heap.objs.size (.lst ys)) { s with heap := s.heap.push { cls := .type "list", data := .seq its.toArray }, toks := t' } :=
  I.laid (fun _ _ q => Heap.get?_push_of_some _ q) (Nat.le_refl _) ⟨hz, its, 0, hv, Heap.get?_push_size _ rfl⟩
theorem Inv.fresh (I : Inv X pins σ H s) : H s.heap.objs.size = none := I.hok.fresh (Nat.le_refl _)
theorem Inv.lstM (I : Inv X pins σ H s) (hH : H l = some (.lst xs)) : xs.length ≤ sizeLine ∧ ∃ (its : List Value) (n : Nat), Vals xs its ∧ xs.length = its.length ∧ s.heap.get? l = some { cls := .type "list", data := .seq its.toArray n } := by
  obtain ⟨z, its, n, r, e⟩ := I.hok l _ hH
  exact ⟨z, its, n, r, r.length, e⟩

theorem notLongL {n : Nat} (h : n ≤ sizeLine) : Builtin.List.listTooLong n = false := by
  unfold Builtin.List.listTooLong
  exact decide_eq_false (by omega)
end

section
variable {X : Cx}

/-! ### methods -/
def rAppend : V → List V → Hp → VK → Prop := fun x vs H Q => ∃ l xs y, x = .ref l ∧ vs = [y] ∧ H l = some (.lst xs) ∧ xs.length < sizeLine ∧ Q .non (upd H l (.lst (xs ++ [y])))
theorem mt_append : MtM X "list.append" rAppend := by
  intro pins s σ H x vs v us Q I rx rv h
  obtain ⟨l, xs, y, rfl, rfl, hH, hz, q⟩ := h
  cases rx
  obtain ⟨u, rfl, ru⟩ := rv.one
  obtain ⟨z, its, n, r, hl, e⟩ := I.lstM hH
  refine call_meets F.slot_list_append ⟨_, e, rfl⟩ F.entry_list_append (F.args_list_append_2 _ _) (PySem.list_append l its.toArray n u (by rw [List.size_toArray]; omega)) ⟨e, ?_⟩
  refine ⟨.non, _, I.lset (its' := its ++ [u]) hH e (by simp) (r.append (.cons ru .nil)) ?_, rfl, q⟩
  rw [List.length_append, List.length_singleton]
  omega

def rExtend : V → List V → Hp → VK → Prop := fun x vs H Q => ∃ l b xs zs, x = .ref l ∧ vs = [.ref b] ∧ H l = some (.lst xs) ∧ H b = some (.lst zs) ∧ xs.length + zs.length ≤ sizeLine ∧ Q .non (upd H l (.lst (xs ++ zs)))
theorem mt_extend : MtM X "list.extend" rExtend := by
  intro pins s σ H x vs v us Q I rx rv h
  obtain ⟨l, b, xs, zs, rfl, rfl, hH, hB, hz, q⟩ := h
  cases rx
  obtain ⟨u, rfl, ru⟩ := rv.one
  cases ru
  obtain ⟨z, its, n, r, hl, e⟩ := I.lstM hH
  obtain ⟨z2, its2, n2, r2, hl2, e2⟩ := I.lstM hB
  have hsz : its.toArray.size + its2.toArray.size ≤ sizeLine := by rw [List.size_toArray, List.size_toArray]; omega
  have hlong : ¬ (!its.toArray.isEmpty && Builtin.List.listTooLong (its.toArray.size + its2.toArray.size)) = true := by
    rw [notLongL hsz, Bool.and_false]
    exact Bool.false_ne_true
  refine call_meets F.slot_list_extend ⟨_, e, rfl⟩ F.entry_list_extend (F.args_list_extend_2 _ _)
    (AutoSeq1.list_extend_list_list_0 l its.toArray n b its2.toArray n2 hlong (by rw [List.size_toArray]; omega) (by omega)) ⟨e, e2, ?_⟩
  refine ⟨.non, _, I.lset (its' := its ++ its2) hH e (by simp) (r.append r2) ?_, rfl, q⟩
  rw [List.length_append]
  omega

def rPop : V → List V → Hp → VK → Prop := fun x vs H Q => ∃ l xs y, x = .ref l ∧ vs = [] ∧ H l = some (.lst xs) ∧ xs[xs.length - 1]? = some y ∧ Q y (upd H l (.lst xs.dropLast))
def rPopAt : V → List V → Hp → VK → Prop := fun x vs H Q => ∃ l xs i k y, x = .ref l ∧ vs = [.int i] ∧ H l = some (.lst xs) ∧ -(2 ^ 63) ≤ i ∧ i < 2 ^ 63 ∧ seqIndex? i xs.length = some k ∧ xs[k]? = some y ∧ Q y (upd H l (.lst (xs.eraseIdx k)))
def rReverse : V → List V → Hp → VK → Prop := fun x vs H Q => ∃ l xs, x = .ref l ∧ vs = [] ∧ H l = some (.lst xs) ∧ Q .non (upd H l (.lst xs.reverse))
def rClear : V → List V → Hp → VK → Prop := fun x vs H Q => ∃ l xs, x = .ref l ∧ vs = [] ∧ H l = some (.lst xs) ∧ Q .non (upd H l (.lst []))
/-! ### list + list, list += list, list * int -/
def rCat : R2 := fun x y H Q => ∃ l b xs zs, x = .ref l ∧ y = .ref b ∧ H l = some (.lst xs) ∧ H b = some (.lst zs) ∧ xs.length + zs.length ≤ sizeLine ∧ ∀ p, H p = none → Q (.ref p) (upd H p (.lst (xs ++ zs)))
/-- a list times an int (a negative one is nothing) -/
def rRep : R2 := fun x y H Q => ∃ l k xs, x = .ref l ∧ y = .int k ∧ H l = some (.lst xs) ∧ -(2 ^ 63) ≤ k ∧ k < 2 ^ 63 ∧ xs.length * k.toNat ≤ sizeLine ∧
  ∀ p, H p = none → Q (.ref p) (upd H p (.lst (List.replicate k.toNat xs).flatten))
/-! ### del xs[i] -/
end

/-! ### xs[a:b] = ys -/
section
variable {prog : Program} {w : World} {A : Around} {E : Value → Shared → Prop} {s : Shared}
set_option maxRecDepth 100000 in
end

section
variable {X : Cx}
end
end L2

namespace Att
open PySem PySem.W PySem.Calls PyProof.Rows

/-! ### the script -/
theorem ints_of_wellAll {P : Params} {h : Heap} : ∀ (ns : List Int) (vs : List Value), WellAll P h vs (ns.map WData.int) → IntsAre vs ns := by
  intro ns
  induction ns with
  | nil =>
    intro vs w
    rw [List.map_nil] at w
    cases w
    exact .nil
  | cons n ns ih =>
    intro vs w
    rw [List.map_cons] at w
    cases w with
    | cons a b =>
      cases a
      exact .cons _ _ (ih _ b)

theorem script_of {l : OpenLaw} {n : Nat} (hn : l.most = some n) {P : Params} {h : Heap} {args : List WData} {vals : List Value}
    (hpre : l.row.toRowW.claim.pre args = true) (hwl : WellAll P h vals args) :
    ∃ a vs ns, vals = [Value.ref a] ∧ args = [WData.list (ns.map WData.int)] ∧ h.get? a = some { cls := .type "list", data := .seq vs.toArray } ∧ IntsAre vs ns ∧ ns.length ≤ n := by
  have hsh : WShape.hasAll [] args [.list .int] = true := (pre_splitW hpre).1
  have hc : l.pre.holds [] { args := args } = true := (pre_splitW hpre).2
  obtain ⟨d, r, rfl, h1, h2⟩ := hasAllW_cons hsh
  obtain rfl := hasAllW_nil h2
  obtain ⟨xs, rfl, h3⟩ := hasW_list h1
  obtain ⟨ns, rfl⟩ := items_int h3
  have hlen : ns.length ≤ n := by
    unfold OpenLaw.pre at hc
    have h4 : (WTm.not (.lt (.lit (.int (n : Int))) (.len (.arg 0)))).holds [] { args := [.list (ns.map .int)] } = true := by
      have h4 := (holds_andW hc).1
      rw [hn] at h4
      exact h4
    have h5 := condW_of h4 (w_not (w_lt w_lit (w_len_list (w_arg rfl))))
    rw [List.length_map] at h5
    refine Nat.le_of_not_lt fun q => ?_
    have q' : (n : Int) < ((ns.length : Nat) : Int) := by omega
    first
      | (rw [decide_eq_true q'] at h5; exact absurd h5 (by decide))
      | (simp at h5; omega)
  cases hwl with
  | cons w1 w2 =>
    cases w2
    cases w1 with
    | list ho hall => exact ⟨_, _, ns, rfl, rfl, ho, ints_of_wellAll ns _ hall, hlen⟩

theorem post_true (l : OpenLaw) (args : List WData) : l.row.toRowW.claim.post args (.bool true) args = true :=
  postW_of (r := l.row.toRowW) (X := (true == true))
    (show WShape.has [] (.bool true) .bool = true by first | rfl | decide | simp [WShape.has, WShape.arms, WShape.armsAll])
    (show (WTm.eq .res (.lit (.bool true))).value [] { args := args, res := some (.bool true), after := args } = some (.bool (true == true)) from w_eq_bool (w_res rfl) w_lit) rfl

/-! ### the attachment: holds_open's last premise (the goal 'hc' behind k_head) from a wpAny of the law's body -/
/-- the same from a codeAny of the CALL (for a layer whose function contracts speak of calls) -/
theorem attach_call {l : OpenLaw} {n : Nat} {q : Program} {loose : List Str} {XP : (Str → Option Value) → Heap → Prop} {YP : World → Heap → Prop} {d : DefRec}
    (hn : l.most = some n) (hdf : d.params.defaults = [])
    (call : ∀ (w : World) (s₀ s₁ : Shared) (mg mb : Str → Option Value) (fa : Addr) (o : Obj) (pm cd doc : Value) (a : Addr) (vs : List Value) (ns : List Int),
      Ground q loose [] XP w s₀ mg mb s₁.heap → YP w s₁.heap →
      s₁.heap.get? fa = some o → o.data = .func (docDef d.name d.params d.body d.scope pm cd doc) → s₁.heap.CodeRec cd d.name → mg d.name = some (.ref fa) →
      s₁.heap.get? a = some { cls := .type "list", data := .seq vs.toArray } → IntsAre vs ns → ns.length ≤ n → s₁.gens = #[] →
      codeAny (model l.prog w) callerA (.call (.ref fa) ⟨[.ref a], []⟩) (fun r s' => r = .ok (.ret (.bool true)) ∧ OldK s₁.heap s'.heap ∧ s'.os = s₁.os ∧ AllBare s'.gens) s₁) :
    WalkO q loose XP YP l.row.toRowW d [] (fun f vs => PySem.call f vs) := by
  intro w s₀ s₁ mg mb G Y fa o pm cd doc dV kV ho hd hcd hD hmg hg args vals as hpre hlay hrd hwl hlo
  obtain rfl : dV = .none := Dflts.none hD hdf
  obtain rfl : kV = .none := Dflts.noKw hD
  obtain ⟨a, vs, ns, rfl, rfl, hobj, hints, hlen⟩ := script_of hn hpre hwl
  refine enter_call (codeAny_mono (call w s₀ s₁ mg mb fa o pm cd doc a vs ns G Y ho (fd_plain hd) hcd hmg hobj hints hlen hg) fun r s' hq => ?_)
  obtain ⟨rfl, h2, h3, h4⟩ := hq
  exact ⟨.inl ⟨.bool true, .bool true, [], rfl, fun _ => rfl, .bool true, post_true l _, fun _ => ⟨List.Pairwise.nil, fun _ hm => (nomatch hm)⟩⟩, h2, h3, h4⟩

/-! ### rules over ANY heap (no ledger) from facts about the written part K: the library's own take a ledger (News) for what they write -/
section
variable {prog : Program} {w : World} {A : Around} {E : Value → Shared → Prop} {s : Shared} {K : Frag}

/-! the whole heap as the ledger: makes every rule that writes through a ledger a rule over any heap -/
def noObjs (h : Heap) : Heap := { h with objs := #[] }
def ledger (h : Heap) (L d : Addr) : List (Addr × Obj) := (List.range h.objs.size).filterMap fun a => if a = L ∨ a = d then none else (h.get? a).map fun o => (a, o)
end
end Att

namespace L2
open PySem PySem.Spec PyProof.Rows

theorem vals_ints : ∀ {vs : List Value} {ns : List Int}, IntsAre vs ns → Vals (ns.map V.int) vs
  | _, _, .nil => .nil
  | _, _, .cons n t h => .cons ⟨t, rfl⟩ (vals_ints h)

/-- nothing is tracked but the script, known to the object (or it is an object of the module) -/
def Only (H : Hp) : Prop := ∀ b, H b = none ∨ ∃ o xs, H b = some (.frz o (.lst xs))

/-- THE HEAD: the law's promise, at the heap behind the top. F, the promise of the law's def, may use that base is part of the heap (so K.In base, base.Ns mainGlobals mg stand in Mod) -/
theorem law_call {P : Program} {w : World} {K : PySem.W.Frag} {mg mb : Str → Option Value} {CX : CXT} {k : Nat} {fa a : Addr} {fd : FuncData} {x : Str} {sp : Sp} {s₁ : Shared} {vs : List Value} {ns : List Int}
    (KX : K.In s₁.heap) (hns : s₁.heap.Ns mainGlobals mg) (hb : s₁.heap.Ns builtinsNs mb) (hbb : ∀ x : Str, x ≠ "__name__" → mb x = bootBuiltins x) (hlim : s₁.heap.NoLimit) (hg : s₁.gens = #[])
    (ha : s₁.heap.get? a = some { cls := .type "list", data := .seq vs.toArray }) (hi : IntsAre vs ns) (hl : ns.length ≤ sizeLine) (hr : Room k callerA)
    (F : ∀ base : Heap, K.In base → base.Ns mainGlobals mg → FnOk P w K mg base CX k fa fd [x] sp) (hbind : ∀ (s : Shared) (u : Value), BindsTo s fd ⟨[u], []⟩ [(x, u)])
    (hsp : ∀ H : Hp, Only H → SqL K H a (ns.map V.int) → sp [.ref a] H (fun v _ => v = .bl true) fun _ _ _ => False)
    (hCX : ∀ H e s', CX [] H s₁ (fun _ _ _ => False) e s' → False) :
    codeAny (model P w) callerA (.call (.ref fa) ⟨[.ref a], []⟩) (fun r s' => r = .ok (.ret (.bool true)) ∧ OldK s₁.heap s'.heap ∧ s'.os = s₁.os ∧ AllBare s'.gens) s₁ := by
  have rv := vals_ints hi
  have lenV := hi.length
  -- from an abstract heap in which nothing but the script may be tracked
  have core : ∀ H : Hp, Only H → SqL K H a (ns.map V.int) → HOk P w H s₁.heap → (∀ b, H b ≠ none → b = a) → (H a ≠ none → K.lookup a = none) →
      codeAny (model P w) callerA (.call (.ref fa) ⟨[.ref a], []⟩) (fun r s' => r = .ok (.ret (.bool true)) ∧ OldK s₁.heap s'.heap ∧ s'.os = s₁.os ∧ AllBare s'.gens) s₁ := by
    intro H hO hS hok hA hK
    have base_of : ∀ {b : Addr} {o : Obj}, s₁.heap.get? b = some o → H b = none → (hidT s₁.heap H).get? b = some o := fun e n => hidT_get e n
    have noA : ∀ {b : Addr} {o : Obj} {es : Array DictEntry} {ep : Nat}, s₁.heap.get? b = some o → o.data = .dict es ep → H b = none := fun {b o es ep} e d => by
      cases q : H b with
      | none => rfl
      | some u =>
        have e' : b = a := hA b (by rw [q]; simp)
        subst e'
        rw [ha] at e; cases e
        have d' : Data.seq vs.toArray _ = Data.dict es ep := d
        cases d'
    have nsK : ∀ {b : Addr} {m : Str → Option Value}, s₁.heap.Ns b m → (hidT s₁.heap H).Ns b m := fun {b m} ⟨o, es, ep, e, d, r⟩ => ⟨o, es, ep, base_of e (noA e d), d, r⟩
    have hKb : K.In (hidT s₁.heap H) := fun b o e => base_of (KX b o e) (by
      cases q : H b with
      | none => rfl
      | some u =>
        have e' : b = a := hA b (by rw [q]; simp)
        subst e'
        rw [hK (by rw [q]; simp)] at e; cases e)
    have hM : Mod K mg (hidT s₁.heap H) := ⟨hKb, nsK hns, ⟨mb, nsK hb, hbb⟩, let ⟨mc, h1, h2⟩ := hlim; ⟨mc, nsK h1, h2⟩⟩
    have e0 : Env0 P w K mg (hidT s₁.heap H) callerA [] s₁ H := ⟨rfl, hM, fun b o e => of_hidT e, Nat.le_of_eq (hidT_size _ _), trivial, fun b hb => absurd (show b ∈ ([] : List Addr) from hb) (by simp), hok, .of_eq hg⟩
    refine codeAny_mono ((F _ hKb (nsK hns)).run callerA [] s₁ H ⟨[.ref a], []⟩ [.ref a] [.ref a] _ _ hr e0 (hbind s₁ (.ref a)) (.cons rfl .nil) (hsp H hO hS)) fun r s' h => ?_
    cases r with
    | error e => exact (hCX H e s' h).elim
    | ok fl =>
      cases fl with
      | next => exact False.elim h
      | brk => exact False.elim h
      | cont => exact False.elim h
      | ret u =>
        obtain ⟨v, H', os, bare, un, hok', r', q⟩ := h
        have q' : v = .bl true := q
        subst q'
        obtain rfl : u = Value.bool true := r'
        refine ⟨rfl, OldK.of_keep fun b o e => ?_, os, bare⟩
        cases q : H b with
        | none => exact un.keep b o e q (by intro z; exact absurd (show b ∈ ([] : List Addr) from z) (by simp)) (by simp)
        | some u =>
          rcases hO b with z | ⟨ob, xs, z⟩
          · rw [q] at z; cases z
          · have z2 := un.frzs b ob _ z
            obtain ⟨e1, _⟩ := hok b _ z
            obtain ⟨e2, _⟩ := hok' b _ z2
            rw [e] at e1; cases e1
            exact e2
  cases hk : K.lookup a with
  | some o =>
    -- the script is one of the module's own objects
    have e := KX a o hk
    rw [ha] at e
    cases e
    refine core (fun _ => none) (fun _ => .inl rfl) (.inr ⟨_, vs.toArray, _, hk, rfl, rfl, rfl, by rw [List.size_toArray, lenV]; exact hl, by simpa using rv⟩) (fun b u z => by have z' : (none : Option HO) = some u := z; cases z') (fun b z => absurd rfl z) fun z => absurd rfl z
  | none =>
    refine core (fun b => if b = a then some (.frz { cls := .type "list", data := .seq vs.toArray } (.lst (ns.map V.int))) else none) (fun b => ?_) (.inl (.inr ⟨{ cls := .type "list", data := .seq vs.toArray }, if_pos rfl⟩)) (fun b u z => ?_) (fun b z => ?_) fun _ => hk
    · by_cases hb : b = a
      · exact .inr ⟨_, _, if_pos hb⟩
      · exact .inl (if_neg hb)
    · by_cases hb : b = a
      · have z' := (if_pos hb).symm.trans z
        cases z'
        subst hb
        exact ⟨ha, by rw [List.length_map]; exact hl, vs, _, rv, ha⟩
      · have z' := (if_neg hb).symm.trans z
        cases z'
    · by_cases hb : b = a
      · exact hb
      · exact absurd (if_neg hb) z
end L2

namespace L2
open PySem PySem.Spec PyProof.Rows

abbrev KOf {K : PySem.W.Frag} {h : Heap} (_ : K.In h) : PySem.W.Frag := K

/-- the goal that k_head leaves (case hc), from the law's promise. F gives the function object fd (K's own) once, then the promise over every base -/
theorem walk_of {l : PySem.W.OpenLaw} {n k : Nat} {q : Program} {loose : List Str} {XP : (Str → Option Value) → Heap → Prop} {YP : World → Heap → Prop} {d : DefRec} {K : Params → PySem.W.Frag} {CX : World → CXT} {sp : World → Sp} {x : Str}
    (hn : l.most = some n) (hn2 : n ≤ sizeLine) (hdf : d.params.defaults = []) (hr : Room k callerA)
    (hY : ∀ (w : World) (h : Heap), YP w h → (K w.params).In h)
    (F : ∀ (w : World) (mg : Str → Option Value) (fa : Addr) (h : Heap), (K w.params).In h → h.Ns mainGlobals mg → mg d.name = some (.ref fa) →
      ∃ fd : FuncData, (∀ (s : Shared) (u : Value), BindsTo s fd ⟨[u], []⟩ [(x, u)]) ∧
        ∀ base : Heap, (K w.params).In base → base.Ns mainGlobals mg → FnOk l.prog w (K w.params) mg base (CX w) k fa fd [x] (sp w))
    (hsp : ∀ (w : World) (H : Hp) (a : Addr) (ns : List Int), ns.length ≤ n → Only H → SqL (K w.params) H a (ns.map V.int) → sp w [.ref a] H (fun v _ => v = .bl true) fun _ _ _ => False)
    (hCX : ∀ (w : World) (H : Hp) (s : Shared) (e : Value) (s' : Shared), CX w [] H s (fun _ _ _ => False) e s' → False) :
    PySem.W.WalkO q loose XP YP l.row.toRowW d [] (fun f vs => PySem.call f vs) := by
  refine Att.attach_call hn hdf fun w s₀ s₁ mg mb fa o pm cd doc a vs ns G Y ho hd hcd hmg hobj hints hlen hg => ?_
  have KX := hY w _ Y
  obtain ⟨fd, hb, hF⟩ := F w mg fa _ KX G.T.g hmg
  exact law_call KX G.T.g G.T.b G.T.builtins G.T.nolimit hg hobj hints (Nat.le_trans hlen hn2) hr hF hb (fun H hO hS => hsp w H a ns hlen hO hS) fun H e s' => hCX w H s₁ e s'
end L2

/- THE LAST THEOREM (shape; LID, My.* are yours):
   My.Adr: a structure of the addresses that your layer names (classes, functions); My.Txt K t: a structure (Prop) of the equations over K;
   My.txt_mk : {K} {implicit addresses ..} (e1 : nsIn K mainGlobals "law" = some (some (.ref f))) (e2 : K.lookup f = some ⟨oc, od, .func (fnOf "law" "law" params body scope dV kV doc pm an cdv ct), sl⟩) (e3 : codeIn K cdv "law" = true) .. : ∃ t, My.Txt K t

set_option maxRecDepth 100000 in
set_option maxHeartbeats 0 in
theorem PySem.Challenge.cw_LID_holds : PySem.Challenge.rw_LID.Holds := by
  w_on; o_law; k_head; (case hw => w_witness2)
  k_fill
  refine L2.walk_of (l := PySem.Challenge.rw_LID) (n := 63) (k := 40) (x := "script") (CX := fun w => ..) (sp := fun _ => My.sp_law) rfl (by decide) rfl ⟨rfl, by decide, by decide⟩ (fun w h Y => PySem.W.kIn_of Y) ?F ?S ?C
  case F =>
    intro w mg fa h KX G hmg
    have T : ∃ t, My.Txt (L2.KOf KX) t := by
      dsimp only [L2.KOf]                          -- K must stand as «<heap const> w.params» for k_is
      refine' My.txt_mk ?e1 ?e2 ?e3 ..
      (case e1 => PySem.W.k_is)                    -- in the order: a name -> its address -> its object -> its parts
      (case e2 => PySem.W.k_is)
      ..
    obtain ⟨t, T⟩ := T
    have e0 := hmg.symm.trans (PySem.W.mg_of KX G T.law)
    cases e0                                       -- fa is the law's own address
    exact ⟨_, fun s u => .of_eq rfl, fun base kb nb => My.law_fn T kb nb⟩     -- if «.of_eq rfl» comes too early: refine' ⟨_, ?b, fun base kb nb => My.law_fn T kb nb⟩; exact fun s u => .of_eq rfl
  case S => exact fun w H a ns hl hO hS => ..
  case C => exact ..
(the tactic k_is has no namespace: write k_is) -/

/-! SHORT WORDS over the layer: a def of the text, its body, what a loop and a test want. -/
namespace L2
open PySem PySem.Spec PyProof.Rows

/-! ### the text by places -/
/-- the j-th statement of a class's body -/
def inClass (s : Stmt) (j : Nat) : Stmt := match s with
  | .ClassDef _ _ _ body _ _ _ _ _ _ _ => body.getD j (.Pass ⟨0, 0, 0, 0⟩)
  | _ => .Pass ⟨0, 0, 0, 0⟩
def defArgs (s : Stmt) : Arguments := match s with
  | .FunctionDef _ a _ _ _ _ _ _ _ _ => a
  | _ => { posonlyargs := [], args := [], vararg := none, kwonlyargs := [], kw_defaults := [], kwarg := none, defaults := [] }
def defBody (s : Stmt) : List Stmt := match s with
  | .FunctionDef _ _ b _ _ _ _ _ _ _ => b
  | _ => []
def defScope (s : Stmt) : Scope := match s with
  | .FunctionDef _ _ _ _ _ _ sc _ _ _ => sc
  | _ => { kind := .function, names := [], isGenerator := false, isCoroutine := false }

/-! ### no exception leaves a def -/
abbrev CX0 : CXT := fun _ _ _ _ _ _ => False
abbrev E0 : XK := fun _ _ _ => False
theorem pass0 {X : Cx} : Passes CX0 X E0 := fun _ _ _ _ _ _ _ h => h.elim

/-! ### a def (or method) of the text as it stands behind the top -/
structure Fun (K : PySem.W.Frag) (x qual : Str) (st : Stmt) (f : Addr) (fd : FuncData) : Prop where
  ex : ∃ (oc : Value) (od : Option Addr) (kV doc pm : Value) (an : Option Addr) (cdv ct : Value) (osl : Array (Option Value)),
    fd = PySem.W.fnOf x qual (defArgs st) (defBody st) (defScope st) .none kV doc pm an cdv ct ∧ K.lookup f = some ⟨oc, od, .func fd, osl⟩ ∧ PySem.W.codeIn K cdv qual = true
  kp : PySem.W.keepIn K (.ref f) = true
section
variable {P : Program} {w : World} {K : PySem.W.Frag} {mg : Str → Option Value} {base : Heap}
/-- THE RULE for a def: its body as a term of rules, and the reading of that term -/
theorem Fun.ok {x qual : Str} {st : Stmt} {f : Addr} {fd : FuncData} {N ps : List Str} {k : Nat} {sp : Sp} (F : Fun K x qual st f fd) (S : FnScope N ps (defScope st)) (len : ∀ vs H Q E, sp vs H Q E → vs.length = ps.length)
    (hbody : ∀ (cdv : Value) (A : Around) (outer : List Env) (s : Shared) (H : Hp) (vs : List V) (Q : VK) (E : XK), Room k (A.deeper (envOfC qual (defScope st) s.heap.objs.size f cdv)) → sp vs H Q E →
      ∃ t, PSs (cxOf CX0 P w K mg base N qual (defScope st) f cdv A outer s H E).nox (defBody st) t ∧ t { nx := fun _ H' => Q .non H', rt := Q } (start N vs) H) : FnOk P w K mg base CX0 (k + 1) f fd ps sp := by
  obtain ⟨oc, od, kV, doc, pm, an, cdv, ct, osl, rfl, lk, hcd⟩ := F.ex
  refine fn_of lk hcd S len fun A outer s H vs Q E hr hsp => ?_
  obtain ⟨t, h, q⟩ := hbody cdv A outer s H vs Q E hr hsp
  exact ⟨t, h.nox, q⟩
/-- how its arguments bind (no defaults): h is «fun _ _ _ _ _ _ us hl => match us, hl with | [_, _], _ => rfl», one _ a parameter -/
theorem Fun.binds {x qual : Str} {st : Stmt} {f : Addr} {fd : FuncData} {ps : List Str} (F : Fun K x qual st f fd)
    (h : ∀ (kV doc pm : Value) (an : Option Addr) (cdv ct : Value) (us : List Value), us.length = ps.length → bindArgs (PySem.W.fnOf x qual (defArgs st) (defBody st) (defScope st) .none kV doc pm an cdv ct) ⟨us, []⟩ = pure (ps.zip us)) : Binds K fd ps [] := by
  obtain ⟨oc, od, kV, doc, pm, an, cdv, ct, osl, rfl, lk, hcd⟩ := F.ex
  exact .all (h kV doc pm an cdv ct)
theorem fun_mk {x qual : Str} {st : Stmt} {f : Addr} {oc : Value} {od an : Option Addr} {osl : Array (Option Value)} {kV doc pm cdv ct : Value} (l : K.lookup f = some ⟨oc, od, .func (PySem.W.fnOf x qual (defArgs st) (defBody st) (defScope st) .none kV doc pm an cdv ct), osl⟩)
    (c : PySem.W.codeIn K cdv qual = true) (k : PySem.W.keepIn K (.ref f) = true) : Fun K x qual st f (PySem.W.fnOf x qual (defArgs st) (defBody st) (defScope st) .none kV doc pm an cdv ct) := ⟨⟨oc, od, kV, doc, pm, an, cdv, ct, osl, rfl, l, c⟩, k⟩
end
/-! ### expressions in short: the name that stands in the i-th slot -/
section
variable {X : Cx}
theorem pv (i : Nat) {x : Str} {pos : Pos} (hN : X.N[i]? = some x := by rfl) (hv : Vis X.env.scope x := by first | exact Or.inl rfl | exact Or.inr (Or.inl rfl) | exact Or.inr (Or.inr rfl)) (hd : (x == ("__debug__" : Str)) = false := by decide)
    (hcd : (x == ("__classdict__" : Str)) = false := by decide) : PE X (.Name x pos) (tVar i) := pe_var hN hv hd hcd
end

/-! ### tests -/
/-! ### heaps -/
/-- all that was tracked is as it was -/
def Same (H H' : Hp) : Prop := ∀ b o, H b = some o → H' b = some o
theorem Same.refl (H : Hp) : Same H H := fun _ _ h => h
theorem Same.trans {H H1 H2 : Hp} (a : Same H H1) (b : Same H1 H2) : Same H H2 := fun c o h => b c o (a c o h)
theorem Same.free {H H' : Hp} (e : Same H H') {l : Addr} (h : H' l = Option.none) : H l = Option.none := by
  cases q : H l with
  | none => rfl
  | some o =>
    rw [e l o q] at h
    cases h
theorem Same.seq {K : PySem.W.Frag} {H H' : Hp} {a : Addr} {xs : List V} (e : Same H H') (h : SqL K H a xs) : SqL K H' a xs := by
  rcases h with (h | ⟨o, h⟩) | h
  · exact .inl (.inl (e _ _ h))
  · exact .inl (.inr ⟨o, e _ _ h⟩)
  · exact .inr h

end L2

namespace L2
open PySem PySem.Spec PyProof.Rows

/-! ### the closure of a comprehension's block -/
def closL (env : Env) (names : List (Str × NameKind)) (cs : List (Str × Addr)) : List (Str × Addr) :=
  names.foldl (fun cs p => if (p.2 == NameKind.free) = true then (p.1, (env.cells.lookup p.1).getD 0) :: cs else cs) cs
theorem closFor {scope : Scope} {env : Env} (h : ∀ y ∈ scope.names, y.2 = .free → ∃ c, env.cells.lookup y.1 = some c) : closureFor scope env = pure (closL env scope.names []) := by
  unfold closureFor
  have key : ∀ (l : List (Str × NameKind)) (cs : List (Str × Addr)), (∀ y ∈ l, y.2 = .free → ∃ c, env.cells.lookup y.1 = some c) →
      (forIn l cs fun (x : Str × NameKind) (r : List (Str × Addr)) => (if (x.2 == NameKind.free) = true then do let a ← cellOf env x.1; pure (ForInStep.yield ((x.1, a) :: r)) else pure (ForInStep.yield r) : Sem (ForInStep (List (Str × Addr))))) = pure (closL env l cs) := by
    intro l
    induction l with
    | nil => intro cs _; rfl
    | cons p r ih =>
      intro cs hl
      rw [List.forIn_cons]
      by_cases hk : (p.2 == NameKind.free) = true
      · obtain ⟨c, hc⟩ := hl p List.mem_cons_self (by simpa using hk)
        rw [if_pos hk]
        have e : cellOf env p.1 = pure c := by unfold cellOf; rw [hc]
        rw [e]
        simp only [pure_bind]
        rw [ih _ fun y hy => hl y (List.mem_cons_of_mem _ hy)]
        unfold closL
        rw [List.foldl_cons, if_pos hk, hc]
        rfl
      · rw [if_neg hk]
        simp only [pure_bind]
        rw [ih _ fun y hy => hl y (List.mem_cons_of_mem _ hy)]
        unfold closL
        rw [List.foldl_cons, if_neg hk]
  have := key scope.names [] h
  simp only [bind_pure]
  exact this
theorem closL_of {env : Env} : ∀ (l : List (Str × NameKind)) (cs : List (Str × Addr)) {x : Str} {c : Addr}, (∀ y ∈ l, y.2 = .free → ∃ c, env.cells.lookup y.1 = some c) → (∀ y d, cs.lookup y = some d → env.cells.lookup y = some d) →
    (closL env l cs).lookup x = some c → env.cells.lookup x = some c
  | [], cs, x, c, _, hc, h => hc x c h
  | p :: r, cs, x, c, hl, hc, h => by
    unfold closL at h
    rw [List.foldl_cons] at h
    by_cases hk : (p.2 == NameKind.free) = true
    · rw [if_pos hk] at h
      refine closL_of r _ (fun y hy => hl y (List.mem_cons_of_mem _ hy)) (fun y d e => ?_) h
      obtain ⟨a, ha⟩ := hl p List.mem_cons_self (by simpa using hk)
      rw [List.lookup_cons] at e
      cases hx : y == p.1 with
      | true =>
        rw [hx] at e
        have hy : y = p.1 := by simpa using hx
        rw [ha] at e
        cases e
        rw [hy]; exact ha
      | false => rw [hx] at e; exact hc y d e
    · rw [if_neg hk] at h
      exact closL_of r cs (fun y hy => hl y (List.mem_cons_of_mem _ hy)) hc h
theorem closL_keep {env : Env} : ∀ (l : List (Str × NameKind)) (cs : List (Str × Addr)) {x : Str}, (∃ c, cs.lookup x = some c) → ∃ c, (closL env l cs).lookup x = some c
  | [], cs, x, h => h
  | p :: r, cs, x, ⟨c, h⟩ => by
    unfold closL
    rw [List.foldl_cons]
    by_cases hk : (p.2 == NameKind.free) = true
    · rw [if_pos hk]
      refine closL_keep r _ ?_
      rw [List.lookup_cons]
      cases hx : x == p.1 with
      | true => exact ⟨_, rfl⟩
      | false => exact ⟨c, h⟩
    · rw [if_neg hk]; exact closL_keep r cs ⟨c, h⟩
theorem closL_has {env : Env} : ∀ (l : List (Str × NameKind)) (cs : List (Str × Addr)) {x : Str}, (x, NameKind.free) ∈ l → ∃ c, (closL env l cs).lookup x = some c
  | [], _, _, h => by simp at h
  | p :: r, cs, x, h => by
    unfold closL
    rw [List.foldl_cons]
    rcases List.mem_cons.mp h with e | e
    · subst e
      rw [if_pos (by rfl)]
      exact closL_keep r _ ⟨(env.cells.lookup x).getD 0, by rw [List.lookup_cons]; simp⟩
    · exact closL_has r _ e
theorem relabel_lookup {env : Env} {scope : Scope} {x : Str} (h : (relabel scope env).names.lookup x = some .cell ∨ (relabel scope env).names.lookup x = some .free) (hc : ∀ y ∈ scope.names, y.2 ≠ .cell) : (x, NameKind.free) ∈ scope.names := by
  have key : ∀ (l : List (Str × NameKind)), (∀ y ∈ l, y.2 ≠ .cell) →
      ((l.map fun (n, k) => if (k == NameKind.free && env.scope.kind == .function && env.kindOf n == some .cell) then (n, NameKind.cell) else (n, k)).lookup x = some .cell ∨
       (l.map fun (n, k) => if (k == NameKind.free && env.scope.kind == .function && env.kindOf n == some .cell) then (n, NameKind.cell) else (n, k)).lookup x = some .free) → (x, NameKind.free) ∈ l := by
    intro l
    induction l with
    | nil => intro _ h; simp at h
    | cons p r ih =>
      obtain ⟨n, k⟩ := p
      intro hl h
      rw [List.map_cons] at h
      have hk : k ≠ .cell := hl (n, k) List.mem_cons_self
      by_cases hx : x = n
      · subst hx
        by_cases hq : (k == NameKind.free && env.scope.kind == .function && env.kindOf x == some .cell) = true
        · have : k = .free := by simp only [Bool.and_eq_true, beq_iff_eq] at hq; exact hq.1.1
          subst this; exact List.mem_cons_self
        · simp only [if_neg hq, List.lookup_cons, beq_self_eq_true] at h
          rcases h with h | h
          · exact absurd (Option.some.inj h) hk
          · have e := Option.some.inj h; subst e; exact List.mem_cons_self
      · have hb : (x == n) = false := by simpa using hx
        refine List.mem_cons_of_mem _ (ih (fun y hy => hl y (List.mem_cons_of_mem _ hy)) ?_)
        by_cases hq : (k == NameKind.free && env.scope.kind == .function && env.kindOf n == some .cell) = true
        · simpa only [if_pos hq, List.lookup_cons, hb] using h
        · simpa only [if_neg hq, List.lookup_cons, hb] using h
  exact key scope.names hc h
theorem relabel_free {env : Env} {scope : Scope} {x : Str} (h : scope.names.lookup x = some .free) : (relabel scope env).names.lookup x = some .cell ∨ (relabel scope env).names.lookup x = some .free := by
  have key : ∀ (l : List (Str × NameKind)), l.lookup x = some .free →
      ((l.map fun (n, k) => if (k == NameKind.free && env.scope.kind == .function && env.kindOf n == some .cell) then (n, NameKind.cell) else (n, k)).lookup x = some .cell ∨
       (l.map fun (n, k) => if (k == NameKind.free && env.scope.kind == .function && env.kindOf n == some .cell) then (n, NameKind.cell) else (n, k)).lookup x = some .free) := by
    intro l
    induction l with
    | nil => intro h; simp at h
    | cons p r ih =>
      obtain ⟨n, k⟩ := p
      intro h
      rw [List.map_cons]
      by_cases hx : x = n
      · subst hx
        rw [List.lookup_cons, beq_self_eq_true] at h
        have e : k = .free := Option.some.inj h
        by_cases hq : (k == NameKind.free && env.scope.kind == .function && env.kindOf x == some .cell) = true
        · left; simp only [if_pos hq, List.lookup_cons, beq_self_eq_true]
        · right; simp only [if_neg hq, List.lookup_cons, beq_self_eq_true]; rw [e]
      · have hb : (x == n) = false := by simpa using hx
        rw [List.lookup_cons, hb] at h
        by_cases hq : (k == NameKind.free && env.scope.kind == .function && env.kindOf n == some .cell) = true
        · simpa only [if_pos hq, List.lookup_cons, hb] using ih h
        · simpa only [if_neg hq, List.lookup_cons, hb] using ih h
  exact key scope.names h

/-! ### a comprehension's block -/
structure CompScope (sc : Scope) (N N' : List Str) (k : Nat) (fr : List Nat) (scope : Scope) : Prop where
  kind : scope.kind = .function
  cell : ∀ y ∈ scope.names, y.2 ≠ .cell
  names : ∀ y ∈ scope.names, y.2 = .local → scope.names.lookup y.1 = some .local
  nd : N'.Nodup
  slot : fr.map (fun j => N[j]?) = (N'.drop k).map some
  frees : ∀ x ∈ N'.drop k, scope.names.lookup x = some .free
  outer : ∀ y ∈ scope.names, y.2 = .free → sc.names.lookup y.1 = some .cell ∨ sc.names.lookup y.1 = some .free
  outer' : ∀ x ∈ N'.drop k, sc.names.lookup x = some .cell ∨ sc.names.lookup x = some .free
  len : N'.length = k + fr.length
def compCx (X : Cx) (scope : Scope) (N' : List Str) (fp : List Addr) (C : Addr) (s : Shared) (H : Hp) : Cx where
  prog := X.prog
  w := X.w
  K := X.K
  mg := X.mg
  base := X.base
  A := X.A
  N := N'
  s₀ := s
  H₀ := H
  env := compEnvC scope (closL X.env scope.names []) C X.env
  outer := X.stack
  stack := X.stack
  ex := fp
  fn := fun _ => false
  calm := X.calm
  pn := []
  xe := fun _ _ => False
/-- the block's slots at each turn: the targets unknown, the outer names' values -/
def st0 (k : Nat) (fr : List Nat) (σ : St) : St := List.replicate k none ++ fr.map fun j => (σ[j]?).join
def Keep (σ σ' : St) : Prop := σ.length = σ'.length ∧ ∀ (i : Nat) v, σ[i]? = some (some v) → σ'[i]? = some (some v)
section
variable {X : Cx} {pins : List (Addr × Obj)} {σ : St} {H : Hp} {s : Shared} {scope : Scope} {N' : List Str} {k : Nat} {fr : List Nat} {fp : List Addr}
theorem comp_ok (S : CompScope X.env.scope X.N N' k fr scope) (I : Inv X pins σ H s) (hf : ∀ b ∈ fp, FpOk X pins H b) (hlt : ∀ b ∈ fp, b < s.heap.objs.size) :
    (compCx X scope N' fp s.heap.objs.size s H).Ok := by
  have hcell : ∀ y ∈ scope.names, y.2 = .free → ∃ c, X.env.cells.lookup y.1 = some c := fun y hy e => I.ok.has y.1 (S.outer y hy e)
  have hcl : ∀ x c, (closL X.env scope.names []).lookup x = some c → X.env.cells.lookup x = some c := fun x c e => closL_of scope.names [] hcell (fun _ _ z => by simp at z) e
  refine ⟨I.ok.mod, S.kind, I.ok.glob, I.ok.blt, Nat.le_refl _, fun x y c h1 h2 => I.ok.inj x y c (hcl x c h1) (hcl y c h2), fun x hx => closL_has _ _ (relabel_lookup hx S.cell), fun x c h => absurd h (by simp [compCx]), I.ok.hd, I.ok.frames, .inl rfl, fun b hb => ⟨Nat.ne_of_lt (hlt b hb), fun x c e => (hf b hb).2.2.2.2.1 x c (hcl x c e)⟩,
    I.bs, Nat.le_trans I.ok.bsz I.sz, fun b o e hb => ?_, fun b hb hb' => ?_, I.stack, I.stkFree⟩
  · rcases (hf b hb).2.2.2.1 with z | z
    · exact I.ok.noex b o e z
    · exact absurd (Nat.lt_of_lt_of_le (Heap.lt_size e) (Nat.le_trans I.ok.bsz z)) (Nat.lt_irrefl _)
  · rcases List.mem_cons.mp (I.stkSub b hb') with z | z
    · exact (hf b hb).2.1 z
    · exact (hf b hb).2.2.1 z
theorem comp_inv (S : CompScope X.env.scope X.N N' k fr scope) (I : Inv X pins σ H s) (hf : ∀ b ∈ fp, FpOk X pins H b) (hlt : ∀ b ∈ fp, b < s.heap.objs.size) {h' : Heap} {t' : Nat}
    (hn : h'.Ns s.heap.objs.size (fun _ => none)) (hk : ∀ b o, s.heap.get? b = some o → h'.get? b = some o) :
    Inv (compCx X scope N' fp s.heap.objs.size s H) [] (st0 k fr σ) H { s with heap := h', toks := t' } := by
  have hcell : ∀ y ∈ scope.names, y.2 = .free → ∃ c, X.env.cells.lookup y.1 = some c := fun y hy e => I.ok.has y.1 (S.outer y hy e)
  have hcl : ∀ x c, (closL X.env scope.names []).lookup x = some c → X.env.cells.lookup x = some c := fun x c e => closL_of scope.names [] hcell (fun _ _ z => by simp at z) e
  refine ⟨comp_ok S I hf hlt, rfl, I.bare, Un.kept hk, ⟨_, hn, fun i x v h1 h2 h3 => ?_⟩, fun x c e => ?_, I.hok.fresh (Nat.le_refl _), fun x c e => I.freeC x c (hcl x c e), fun p hp => absurd hp (by simp [compCx]), I.hok.kept hk, ?_⟩
  · have hi : k ≤ i := by
      rcases Nat.lt_or_ge i k with z | z
      · exfalso
        unfold st0 at h2
        rw [List.getElem?_append_left (by simpa using z), List.getElem?_replicate, if_pos z] at h2
        cases h2
      · exact z
    have h2' : (fr.map fun j => (σ[j]?).join)[i - k]? = some (some v) := by
      unfold st0 at h2
      rw [List.getElem?_append_right (by simpa using hi)] at h2
      simpa using h2
    have h1' : (N'.drop k)[i - k]? = some x := by
      rw [List.getElem?_drop, Nat.add_sub_cancel' hi]; exact h1
    have hmem : x ∈ N'.drop k := List.mem_of_getElem? h1'
    have e2 : (fr.map fun j => X.N[j]?)[i - k]? = some (some x) := by
      rw [S.slot, List.getElem?_map, h1']; rfl
    obtain ⟨j, hj, ej⟩ : ∃ j, fr[i - k]? = some j ∧ X.N[j]? = some x := by
      rw [List.getElem?_map] at e2
      cases e : fr[i - k]? with
      | none => rw [e] at e2; cases e2
      | some j => rw [e] at e2; exact ⟨j, rfl, Option.some.inj e2⟩
    have hv : σ[j]? = some (some v) := by
      rw [List.getElem?_map, hj] at h2'
      have h3' : (σ[j]?).join = some v := Option.some.inj h2'
      cases e : σ[j]? with
      | none => rw [e] at h3'; cases h3'
      | some o => rw [e] at h3'; rw [show o = some v from h3']
    obtain ⟨m, hn0, hl⟩ := I.loc
    have ho := S.outer' x hmem
    obtain ⟨u, ru, lk⟩ := hl j x v ej hv (.inr ho)
    refine ⟨u, ru, .inr ⟨relabel_free (S.frees x hmem), ?_⟩⟩
    rcases lk with ⟨z, _⟩ | ⟨_, c, hc, hx⟩
    · exfalso
      rcases ho with ho | ho
      · exact absurd (z.symm.trans ho) (by simp)
      · exact absurd (z.symm.trans ho) (by simp)
    · obtain ⟨c', hc'⟩ := closL_has (env := X.env) scope.names [] (PySem.mem_of_lookup (S.frees x hmem))
      have := hcl x c' hc'
      rw [hc] at this; cases this
      obtain ⟨o, ho, hd⟩ := hx
      exact ⟨c, hc', o, hk c o ho, hd⟩
  · obtain ⟨v, o, ho, hd⟩ := I.cell x c (hcl x c e)
    exact ⟨v, o, hk c o ho, hd⟩
  · unfold st0
    show _ = N'.length
    rw [List.length_append, List.length_replicate, List.length_map, S.len]
end
end L2

namespace L2
open PySem PySem.Spec PyProof.Rows
section
variable {prog : Program} {w : World} {A : Around} {E : Value → Shared → Prop} {R : Result → Shared → Prop} {s : Shared}
theorem compLoop_go {elt target iter : Expr} {ifs : List Expr} {scope : Scope} {pos : Pos} {it acc : Value} {env : Env} (I : Nat → Shared → Prop)
    (turn : ∀ n s, I n s → wpAny (model prog w) A (pyNext it) (fun r s₁ => match r with
      | none => R (.ok .next) s₁
      | some v => wpAny (model prog w) A (letOwnedTupleGo target it v) (fun _ s₁' => wpAny (model prog w) A (assign target env v) (fun _ s₂ =>
          wpAny (model prog w) A (forIn ifs true fun c r => if r = true then do let ok ← isTrue c env (eval c env); pure (ForInStep.yield ok) else pure (ForInStep.yield r)) (fun ok s₃ =>
            if ok = true then wpAny (model prog w) A (eval elt env) (fun x s₄ =>
              wpAny (model prog w) A (call (.builtin "list.append") [acc, x]) (fun _ s₅ => ∃ m, m < n ∧ I m s₅) (fun _ _ => False) s₄) (fun _ _ => False) s₃
            else ∃ m, m < n ∧ I m s₃) (fun _ _ => False) s₂) (fun _ _ => False) s₁') (fun _ _ => False) s₁) (fun _ _ => False) s)
    (n : Nat) (h : I n s) :
    codeAny (model prog w) A (.compLoop (.ListComp elt [⟨target, iter, ifs, 0⟩] scope pos) 0 it acc env) R s := by
  refine codeAny_loop rfl I (fun n s hI => ?_) n h
  show wpAny _ A ((compTurn (.ListComp elt [⟨target, iter, ifs, 0⟩] scope pos) 0 it acc env).onRaise (fun x => do noteFrame x env; theTreesLotGoes x)) _ _ s
  refine wpAny_noted ?_
  rw [compTurn_list]
  refine wpAny_bind (wpAny_standAt (wpAny_bind (wpAny_mono (turn n s hI) (fun r s₁ h₁ => ?_) fun _ _ h' => h'.elim)))
  cases r with
  | none => exact wpAny_pure h₁
  | some v =>
    refine wpAny_bind (wpAny_mono h₁ (fun _ s₁' h₁' => ?_) fun _ _ h' => h'.elim)
    refine wpAny_bind (wpAny_mono h₁' (fun _ s₂ h₂ => wpAny_bind (wpAny_mono h₂ (fun ok s₃ h₃ => ?_) fun _ _ h' => h'.elim)) fun _ _ h' => h'.elim)
    cases ok with
    | false => exact wpAny_pure ⟨rfl, h₃⟩
    | true =>
      exact wpAny_bind (wpAny_bind (wpAny_mono h₃ (fun x s₄ h₄ => wpAny_bind (wpAny_mono h₄ (fun _ s₅ h₅ => wpAny_pure (wpAny_pure ⟨rfl, h₅⟩)) fun _ _ h' => h'.elim)) fun _ _ h' => h'.elim))
end
/-- the tests of a comprehension: none, or one -/
def PIfs (X : Cx) (ifs : List Expr) (t : TT) : Prop :=
  ∀ (pins : List (Addr × Obj)) (s : Shared) (σ : St) (H : Hp) (Q : Bool → Hp → Prop), Inv X pins σ H s → t σ H Q →
    wpAny (model X.prog X.w) X.A (forIn ifs true fun c r => if r = true then do let ok ← isTrue c X.env (eval c X.env); pure (ForInStep.yield ok) else pure (ForInStep.yield r)) (TP X pins σ Q) X.xe s
def tYes : TT := fun _ H Q => Q true H
theorem pf_nil {X : Cx} : PIfs X [] tYes := fun pins s σ H Q I h => wpAny_tests_nil ⟨H, I, h⟩
theorem pf_one {X : Cx} {c : Expr} {t : TT} (h : PT X c t) : PIfs X [c] t := fun pins s σ H Q I hq => wpAny_tests_one (h pins s σ H Q I hq)
theorem HOk.but {P : Program} {w : World} {H : Hp} {h h' : Heap} {C : Addr} (x : HOk P w H h) (hC : H C = none) (k : ∀ b o, b ≠ C → h.get? b = some o → h'.get? b = some o) : HOk P w H h' := fun a o e => by
  refine (x a o e).stay (fun b u hb q => k b u ?_ q) (fun _ q => q) fun _ _ q => q
  intro z
  subst z
  rcases hb with z | z
  · rw [← z, hC] at e; cases e
  · rw [hC] at z; cases z
/-- [elt for tg in iter if c]: W: the word by the turn and a measure -/
def tComp (wi : TI) (g : TG) (tc : TT) (te : TE) (k : Nat) (fr : List Nat) : TE := fun σ H Q => wi σ H fun J H1 => ∀ D, H1 D = none → ∃ W : Nat → Nat → Hp → Prop, (∃ m, W 0 m (upd H1 D (.lst []))) ∧ ∀ i m H, W i m H →
  (J.stop i H ∧ Q (.ref D) H) ∨ (J.go i H ∧ ∀ x H', J.yld i H x H' → g x (st0 k fr σ) H' fun σ2 H2 => Keep (st0 k fr σ) σ2 ∧ tc σ2 H2 fun ok H3 =>
    if ok = true then te σ2 H3 fun y H4 => ∃ ys, H4 D = some (.lst ys) ∧ ys.length < sizeLine ∧ ∃ m', m' < m ∧ W (i + 1) m' (upd H4 D (.lst (ys ++ [y])))
    else ∃ m', m' < m ∧ W (i + 1) m' H3)
section
variable {X : Cx} {tg iter elt : Expr} {ifs : List Expr} {scope : Scope} {N' : List Str} {k : Nat} {fr : List Nat} {wi : TI} {g : TG} {tc : TT} {te : TE} {pos : Pos}
theorem comp_run {use : Option (Value → Sem Unit)} {Q' : Value → Shared → Prop} {pins : List (Addr × Obj)} {s : Shared} {σ : St} {H : Hp} {Q : VK} (hc : X.calm = true) (S : CompScope X.env.scope X.N N' k fr scope) (hi : PI X tg iter wi)
    (hg : ∀ fp C s H, PG (compCx X scope N' fp C s H) tg g) (hf : ∀ fp C s H, PIfs (compCx X scope N' fp C s H) ifs tc) (he : ∀ fp C s H, PE (compCx X scope N' fp C s H) elt te)
    (I : Inv X pins σ H s) (h : tComp wi g tc te k fr σ H Q)
    (hQ : ∀ D C s' H', C ≠ X.env.locals → Inv X pins σ H' s' → (∀ h', Heap.SameBut C s'.heap h' → Inv X pins σ H' { s' with heap := h' }) → Q (.ref D) H' → (∃ m, s'.heap.Ns C m) → X.env.locals < C → H' C = none ∧ (∀ x c, X.env.cells.lookup x = some c → c ≠ C) ∧ (∀ p ∈ X.pn ++ pins, p.1 ≠ C) → compPost (model X.prog X.w) X.A X.xe use Q' (.ref D) C (.ok .next) s') :
    wpAny (model X.prog X.w) X.A (eval iter X.env) (fun x s₁ => wpAny (model X.prog X.w) X.A (pyIter x) (fun it s₂ => wpAny (model X.prog X.w) X.A (newList []) (fun acc s₃ =>
      wpAny (model X.prog X.w) X.A (newFunctionEnv scope X.env.globals (closL X.env scope.names []) [] X.env.qual none .none (some X.env)) (fun cenv s₄ =>
        codeAny (model X.prog X.w) X.A (.compStart (.ListComp elt [⟨tg, iter, ifs, 0⟩] scope pos) 0 it acc { cenv with scope := relabel scope X.env }) (compPost (model X.prog X.w) X.A X.xe use Q' acc cenv.locals) s₄) X.xe s₃) X.xe s₂) X.xe s₁) X.xe s := by
  refine thn (hi pins s σ H _ I h) fun v s1 h1 => thn h1 fun itv s2 h2 => ?_
  obtain ⟨it, fp, tn, J, H2, e, I2, T, st2, f2, wW⟩ := h2
  subst e
  refine wpAny_newObj_type ?_
  have hD0 : H2 s2.heap.objs.size = none := I2.hok.fresh (Nat.le_refl _)
  obtain ⟨W, ⟨m0, w0⟩, turn⟩ := wW _ hD0
  generalize hD : s2.heap.objs.size = D at *
  have I3 : Inv X pins σ (upd H2 D (.lst [])) { s2 with heap := s2.heap.push { cls := .type "list", dict := none, data := .seq ([] : List Value).toArray } } := by
    have := I2.lnew (ys := []) (its := []) (t' := s2.toks) .nil (Nat.zero_le _)
    rw [hD] at this
    exact this
  generalize hs3 : ({ s2 with heap := s2.heap.push { cls := .type "list", dict := none, data := .seq ([] : List Value).toArray } } : Shared) = s3 at *
  have up23 : ∀ b o, s2.heap.get? b = some o → s3.heap.get? b = some o := fun b o e => by rw [← hs3]; exact Heap.get?_push_of_some _ e
  have fpD : ∀ b ∈ fp, b ≠ D := fun b hb z => by
    obtain ⟨o, ho, _⟩ := T.obj _ _ st2 b hb
    have := Heap.lt_size ho
    rw [hD, z] at this
    exact Nat.lt_irrefl _ this
  have f3 : ∀ b ∈ fp, FpOk X pins (upd H2 D (.lst [])) b := fun b hb => ⟨by rw [upd_ne (fpD b hb)]; exact (f2 b hb).1, (f2 b hb).2⟩
  have st3 : tn 0 s3.heap := T.keep _ _ _ st2 fun b hb o e => up23 b o e
  have lt3 : ∀ b ∈ fp, b < s3.heap.objs.size := fun b hb => by obtain ⟨o, ho, _⟩ := T.obj _ _ st3 b hb; exact Heap.lt_size ho
  refine wpAny_newFunctionEnv S.cell (by intro y hy; simp at hy) (fun h₁ hns₁ hsb₁ => ?_) S.kind
  have up34 : ∀ b o, s3.heap.get? b = some o → h₁.get? b = some o := fun b o e => hsb₁.extBut b o (Nat.ne_of_lt (Heap.lt_size e)) (Heap.get?_push_of_some _ e)
  have I4 := comp_inv (t' := s3.toks + ([] : List (Str × Value)).length) S I3 f3 lt3 hns₁ up34
  have st4 : tn 0 h₁ := T.keep _ _ _ st3 fun b hb o e => up34 b o e
  generalize hX' : compCx X scope N' fp s3.heap.objs.size s3 (upd H2 D (.lst [])) = X' at *
  have hg' : PG X' tg g := by rw [← hX']; exact hg _ _ _ _
  have hf' : PIfs X' ifs tc := by rw [← hX']; exact hf _ _ _ _
  have he' : PE X' elt te := by rw [← hX']; exact he _ _ _ _
  have eP : X'.prog = X.prog := by rw [← hX']; rfl
  have eW : X'.w = X.w := by rw [← hX']; rfl
  have eK : X'.K = X.K := by rw [← hX']; rfl
  have eA : X'.A = X.A := by rw [← hX']; rfl
  have eC : X'.calm = true := by rw [← hX']; exact hc
  have eE : X'.xe = fun _ _ => False := by rw [← hX']; rfl
  have eEnv : X'.env = compEnvC scope (closL X.env scope.names []) s3.heap.objs.size X.env := by rw [← hX']; rfl
  have fpx : ∀ {H' : Hp}, (∀ b ∈ fp, H' b = none) → ∀ b ∈ fp, FpOk X' [] H' b := fun {H'} hn b hb => by
    refine ⟨hn b hb, ?_, ?_, .inl ?_, ?_, ?_⟩
    · rw [eEnv]; exact Nat.ne_of_lt (lt3 b hb)
    · have := I4.ok.exfs b (by rw [← hX']; exact hb); exact this
    · rw [← hX']; exact hb
    · have := I4.ok.exf b (by rw [← hX']; exact hb); exact this.2
    · intro p hp; rw [← hX'] at hp; simp [compCx] at hp
  -- behind the block
  have fin : ∀ (s' : Shared) (H' : Hp) (σ' : St), Inv X' [] σ' H' s' → Q (.ref D) H' → compPost (model X.prog X.w) X.A X.xe use Q' (.ref D) s3.heap.objs.size (.ok .next) s' := fun s' H' σ' J q => by
    have un : Un (frs X.stack) fp (upd H2 D (.lst [])) H' s3.heap s'.heap := by have := J.base; rw [← hX'] at this; exact this
    have jos : s'.os = s3.os := by have := J.os; rw [← hX'] at this; exact this
    have hC : H' s3.heap.objs.size = none := by have := J.free; rw [eEnv] at this; exact this
    have hok' : HOk X.prog X.w H' s'.heap := by have := J.hok; rw [eP, eW] at this; exact this
    have back : ∀ h', Heap.SameBut s3.heap.objs.size s'.heap h' → Inv X pins σ H' { s' with heap := h' } := fun h' hs' => by
      have un' : Un (frs X.stack) fp (upd H2 D (.lst [])) H' s3.heap h' :=
        ⟨fun b o e n h1 h2 => hs'.extBut b o (Nat.ne_of_lt (Heap.lt_size e)) (un.keep b o e n h1 h2), fun b o e n h1 h2 => by
          obtain ⟨sl, z⟩ := un.slot b o e n h1 h2
          exact ⟨sl, hs'.extBut b _ (Nat.ne_of_lt (Heap.lt_size e)) z⟩, un.free, fun b o e h2 => by
          obtain ⟨o', z⟩ := un.there b o e h2
          exact ⟨o', hs'.extBut b o' (Nat.ne_of_lt (Heap.lt_size e)) z⟩, un.tups, un.frzs, un.tbls⟩
      exact Inv.call' (s' := { s' with heap := h' }) I3 jos un' (hok'.but hC hs'.extBut) J.bare fun b hb => ⟨(f3 b hb).2.2.2.1, (f3 b hb).2.1, (f3 b hb).2.2.2.2.1, (f3 b hb).2.2.2.2.2⟩
    have nsC : ∃ m, s'.heap.Ns s3.heap.objs.size m := by
      obtain ⟨m, hn, _⟩ := J.loc
      rw [eEnv] at hn
      exact ⟨m, hn⟩
    exact hQ D s3.heap.objs.size s' H' (Nat.ne_of_gt I3.lt) (back s'.heap (.refl ..)) back q nsC I3.lt
      ⟨hC, fun x c e => by obtain ⟨v, o, ho, _⟩ := I3.cell x c e; exact Nat.ne_of_lt (Heap.lt_size ho), fun p hp => Nat.ne_of_lt (Heap.lt_size (I3.pin p hp).1)⟩
  have loop : ∀ s4 : Shared, s4 = ({ s3 with heap := h₁, toks := s3.toks + ([] : List (Str × Value)).length } : Shared) →
      codeAny (model X.prog X.w) X.A (.compLoop (.ListComp elt [⟨tg, iter, ifs, 0⟩] scope pos) 0 (.ref it) (.ref D) X'.env) (compPost (model X.prog X.w) X.A X.xe use Q' (.ref D) s3.heap.objs.size) s4 := by
    rintro s4 rfl
    refine compLoop_go (fun n s' => ∃ i H', Inv X' [] (st0 k fr σ) H' s' ∧ tn i s'.heap ∧ (∀ b ∈ fp, H' b = none) ∧ W i n H') ?_ m0 ⟨0, _, I4, st4, fun b hb => (f3 b hb).1, w0⟩
    rintro n s5 ⟨i, H5, I5, st5, fr5, w5⟩
    rcases turn i n H5 w5 with ⟨stop, qn⟩ | ⟨go, step⟩
    · have := T.done X' eP eW eK eC i [] s5 _ H5 (fun _ _ => False) I5 (fpx fr5) st5 stop
      rw [eA] at this
      refine thn this fun r s6 ⟨hr, I6⟩ => ?_
      subst hr
      exact fin s6 H5 _ I6 qn
    · have := T.item X' eP eW eK eC i [] s5 _ H5 (fun _ _ => False) I5 (fpx fr5) st5 go
      rw [eA] at this
      refine thn this fun r s6 ⟨u, hr, h6⟩ => ?_
      subst hr
      refine thn h6 fun _ s7 ⟨x, H7, I7, r7, y7, st7, fr7⟩ => ?_
      have I7' := I7.pinned (fpx fr7) (T.obj _ _ st7)
      have h8 := hg' _ s7 _ H7 x u _ I7' r7 (step x H7 y7)
      rw [eP, eW, eA, eE] at h8
      refine thn h8 fun _ s8 ⟨σ8, H8, I8, kp, q8⟩ => ?_
      have h9 := hf' _ s8 σ8 H8 _ I8 q8
      rw [eP, eW, eA, eE] at h9
      have again : ∀ {s9 : Shared} {H9 : Hp} {n' : Nat}, Inv X' ([] ++ pinsAt fp s7.heap) σ8 H9 s9 → n' < n → W (i + 1) n' H9 → ∃ m, m < n ∧ ∃ i H', Inv X' [] (st0 k fr σ) H' s9 ∧ tn i s9.heap ∧ (∀ b ∈ fp, H' b = none) ∧ W i m H' := fun {s9 H9 n'} I9 hn' w9 => by
        refine ⟨n', hn', i + 1, H9, I9.unpinned.weak kp.1 kp.2, T.keep _ _ _ st7 fun b hb o e => (I9.pin (b, o) (List.mem_append_right _ (List.mem_append_right _ (mem_pinsAt hb e)))).1, fun b hb => ?_, w9⟩
        obtain ⟨o, e, d⟩ := T.obj _ _ st7 b hb
        exact (I9.pin (b, o) (List.mem_append_right _ (List.mem_append_right _ (mem_pinsAt hb e)))).2.1
      refine thn h9 fun ok s9 ⟨H9, I9, q9⟩ => ?_
      cases ok with
      | false =>
        rw [if_neg Bool.false_ne_true] at q9
        obtain ⟨m', hm', w9⟩ := q9
        rw [if_neg Bool.false_ne_true]
        exact again I9 hm' w9
      | true =>
        rw [if_pos rfl] at q9
        rw [if_pos rfl]
        have h10 := he' _ s9 σ8 H9 _ I9 q9
        rw [eP, eW, eA, eE] at h10
        refine thn h10 fun y s10 ⟨yv, H10, I10, r10, ys, hys, hz, m', hm', w10⟩ => ?_
        have h11 := mt_append (X := X') _ s10 σ8 H10 (.ref D) [yv] (.ref D) [y] (fun _ H' => W (i + 1) m' H') I10 rfl (.cons r10 .nil) ⟨D, ys, yv, rfl, rfl, hys, hz, w10⟩
        rw [eP, eW, eA, eE] at h11
        exact thn h11 fun _ s11 ⟨_, H11, I11, _, q11⟩ => again I11 hm' q11
  have hE : ({ newEnv scope s3.heap.objs.size X.env.globals (closL X.env scope.names []) X.env.qual none .none (some X.env) builtinsNs with scope := relabel scope X.env } : Env) = X'.env := by
    rw [eEnv]; rfl
  have goal := codeAny_compStart_list (elt := elt) (target := tg) (iter := iter) (ifs := ifs) (rest := []) (scope := scope) (pos := pos) (loop _ rfl) (T.self X.A 0 _ _ _ st4 (loop _ rfl))
  rw [← hE] at goal
  exact goal
/-- a list comprehension -/
theorem pe_comp (hc : X.calm = true) (S : CompScope X.env.scope X.N N' k fr scope) (hi : PI X tg iter wi)
    (hg : ∀ fp C s H, PG (compCx X scope N' fp C s H) tg g) (hf : ∀ fp C s H, PIfs (compCx X scope N' fp C s H) ifs tc) (he : ∀ fp C s H, PE (compCx X scope N' fp C s H) elt te)
    (hs : ∀ x, foldedSetIterable iter X.env x = pure x := by intro _; rfl) : PE X (.ListComp elt [⟨tg, iter, ifs, 0⟩] scope pos) (tComp wi g tc te k fr) := by
  intro pins s σ H Q I h
  have hcell : ∀ y ∈ scope.names, y.2 = .free → ∃ c, X.env.cells.lookup y.1 = some c := fun y hy e => I.ok.has y.1 (S.outer y hy e)
  rw [eval_ListComp]
  refine wpAny_comprehension_free (use := none) rfl hs (closFor hcell) S.kind S.names (comp_run hc S hi hg hf he I h ?_)
  intro D C s' H' hC J back q ns hlt _
  obtain ⟨m, hn⟩ := ns
  exact ⟨m, hn, fun h' hs' => ⟨.ref D, H', back h' hs', rfl, q⟩⟩
/-- name = a list comprehension: the name is bound while the comprehension's frame still stands -/
theorem ps_setComp {i : Nat} {x : Str} {pos' spos : Pos} (hN : X.N.Nodup) (hxi : X.N[i]? = some x) (hx : Loc X.env.scope x) (hc : X.calm = true) (S : CompScope X.env.scope X.N N' k fr scope) (hi : PI X tg iter wi)
    (hg : ∀ fp C s H, PG (compCx X scope N' fp C s H) tg g) (hf : ∀ fp C s H, PIfs (compCx X scope N' fp C s H) ifs tc) (he : ∀ fp C s H, PE (compCx X scope N' fp C s H) elt te)
    (hsw : swapsWith (.ListComp elt [⟨tg, iter, ifs, 0⟩] scope pos) (some (.Name x pos')) spos.line X.env = pure true)
    (hs : ∀ x, foldedSetIterable iter X.env x = pure x := by intro _; rfl) (hfn : X.fn x = true ∨ X.env.scope.names.lookup x = some .local := by first | exact .inl rfl | exact .inr rfl | assumption) :
    PS X (.Assign [.Name x pos'] (.ListComp elt [⟨tg, iter, ifs, 0⟩] scope pos) spos) (tAsg (tComp wi g tc te k fr) (gName i)) := by
  intro pins s σ H D I h
  have hcell : ∀ y ∈ scope.names, y.2 = .free → ∃ c, X.env.cells.lookup y.1 = some c := fun y hy e => I.ok.has y.1 (S.outer y hy e)
  rw [exec_Assign_Name_used _ _ _ _ hsw]
  refine wpAny_bind (wpAny_standAt (wpAny_bind ?_))
  show wpAny _ X.A (do let _ ← comprehension (.ListComp elt [⟨tg, iter, ifs, 0⟩] scope pos) scope X.env _ (newList []) false (eval iter X.env) (some (assign (.Name x pos') X.env))) _ _ s
  refine wpAny_bind (wpAny_mono (wpAny_comprehension_free (use := some (assign (.Name x pos') X.env)) (Q := fun _ s' => ∃ σ' H', Inv X pins σ' H' s' ∧ D.nx σ' H') rfl hs (closFor hcell) S.kind S.names (comp_run hc S hi hg hf he I h ?_)) (fun _ s' hq => wpAny_pure (wpAny_pure hq)) fun _ _ e => e)
  intro D' C s' H' hC J back q ns hlt ⟨c1, c2, c3⟩
  obtain ⟨m, hn⟩ := ns
  show wpAny _ X.A (assign (.Name x pos') X.env (.ref D')) _ _ _
  refine wpAny_assign_Name (store_ok2 J hN hxi hx (v := .ref D') rfl (fun s2 J2 sb => ?_) hfn)
  obtain ⟨a, sb, ha⟩ := sb
  have hCa : C ≠ a := by
    rcases ha with z | z
    · rw [z]; exact hC
    · exact Ne.symm (c2 _ _ z)
  refine ⟨m, hn.sameBut sb hCa, fun h3 hs3 => ⟨_, H', ?_, q⟩⟩
  exact J2.turned (t' := s2.toks) hs3.extBut c1 hC (.inr (Nat.le_trans J.ok.above (Nat.le_of_lt hlt))) c2 c3
end
end L2

namespace L2
open PySem PySem.Spec PyProof.Rows
section
variable {X : Cx}
end
end L2
namespace Att
open PySem PySem.W PySem.Calls PyProof.Rows
/-- the bits of a script's ints -/
theorem bits_le {ns : List Int} (h : WData.layableAll [WData.list (ns.map WData.int)] = true) : ∀ n ∈ ns, Builtin.Int.intBits n ≤ 1048576 := by
  have h1 : (WData.list (ns.map WData.int)).layable = true := by simpa [WData.layableAll] using h
  have h2 : (WData.list (ns.map WData.int)).weight ≤ 1048576 := (PySem.W.layableW_iff.mp h1).2.2
  have key : ∀ l : List Int, ∀ n ∈ l, Builtin.Int.intBits n ≤ WData.weightAll (l.map WData.int) := by
    intro l
    induction l with
    | nil => intro n hn; simp at hn
    | cons x r ih =>
      intro n hn
      have e : WData.weightAll ((x :: r).map WData.int) = Builtin.Int.intBits x + 1 + WData.weightAll (r.map WData.int) := by
        rw [List.map_cons, WData.weightAll, WData.weight]; rfl
      rw [e]
      rcases List.mem_cons.mp hn with z | z
      · subst z; omega
      · have := ih n z; omega
  intro n hn
  have e : (WData.list (ns.map WData.int)).weight = WData.weightAll (ns.map WData.int) := by rw [WData.weight]
  rw [e] at h2
  exact Nat.le_trans (key ns n hn) h2
theorem attach_callB {l : OpenLaw} {n : Nat} {q : Program} {loose : List Str} {XP : (Str → Option Value) → Heap → Prop} {YP : World → Heap → Prop} {d : DefRec}
    (hn : l.most = some n) (hdf : d.params.defaults = [])
    (call : ∀ (w : World) (s₀ s₁ : Shared) (mg mb : Str → Option Value) (fa : Addr) (o : Obj) (pm cd doc : Value) (a : Addr) (vs : List Value) (ns : List Int),
      Ground q loose [] XP w s₀ mg mb s₁.heap → YP w s₁.heap →
      s₁.heap.get? fa = some o → o.data = .func (docDef d.name d.params d.body d.scope pm cd doc) → s₁.heap.CodeRec cd d.name → mg d.name = some (.ref fa) →
      s₁.heap.get? a = some { cls := .type "list", data := .seq vs.toArray } → IntsAre vs ns → ns.length ≤ n → (∀ z ∈ ns, Builtin.Int.intBits z ≤ 1048576) → s₁.gens = #[] →
      codeAny (model l.prog w) callerA (.call (.ref fa) ⟨[.ref a], []⟩) (fun r s' => r = .ok (.ret (.bool true)) ∧ OldK s₁.heap s'.heap ∧ s'.os = s₁.os ∧ AllBare s'.gens) s₁) :
    WalkO q loose XP YP l.row.toRowW d [] (fun f vs => PySem.call f vs) := by
  intro w s₀ s₁ mg mb G Y fa o pm cd doc dV kV ho hd hcd hD hmg hg args vals as hpre hlay hrd hwl hlo
  obtain rfl : dV = .none := Dflts.none hD hdf
  obtain rfl : kV = .none := Dflts.noKw hD
  obtain ⟨a, vs, ns, rfl, rfl, hobj, hints, hlen⟩ := script_of hn hpre hwl
  have hb : ∀ z ∈ ns, Builtin.Int.intBits z ≤ 1048576 := bits_le hlay
  refine enter_call (codeAny_mono (call w s₀ s₁ mg mb fa o pm cd doc a vs ns G Y ho (fd_plain hd) hcd hmg hobj hints hlen hb hg) fun r s' hq => ?_)
  obtain ⟨rfl, h2, h3, h4⟩ := hq
  exact ⟨.inl ⟨.bool true, .bool true, [], rfl, fun _ => rfl, .bool true, post_true l _, fun _ => ⟨List.Pairwise.nil, fun _ hm => (nomatch hm)⟩⟩, h2, h3, h4⟩
end Att
namespace L2
open PySem PySem.Spec PyProof.Rows
theorem walk_ofB {l : PySem.W.OpenLaw} {n k : Nat} {q : Program} {loose : List Str} {XP : (Str → Option Value) → Heap → Prop} {YP : World → Heap → Prop} {d : DefRec} {K : Params → PySem.W.Frag} {CX : World → CXT} {sp : World → Sp} {x : Str}
    (hn : l.most = some n) (hn2 : n ≤ sizeLine) (hdf : d.params.defaults = []) (hr : Room k callerA)
    (hY : ∀ (w : World) (h : Heap), YP w h → (K w.params).In h)
    (F : ∀ (w : World) (mg : Str → Option Value) (fa : Addr) (h : Heap), (K w.params).In h → h.Ns mainGlobals mg → mg d.name = some (.ref fa) →
      ∃ fd : FuncData, (∀ (s : Shared) (u : Value), BindsTo s fd ⟨[u], []⟩ [(x, u)]) ∧
        ∀ base : Heap, (K w.params).In base → base.Ns mainGlobals mg → FnOk l.prog w (K w.params) mg base (CX w) k fa fd [x] (sp w))
    (hsp : ∀ (w : World) (H : Hp) (a : Addr) (ns : List Int), ns.length ≤ n → (∀ z ∈ ns, Builtin.Int.intBits z ≤ 1048576) → Only H → SqL (K w.params) H a (ns.map V.int) → sp w [.ref a] H (fun v _ => v = .bl true) fun _ _ _ => False)
    (hCX : ∀ (w : World) (H : Hp) (s : Shared) (e : Value) (s' : Shared), CX w [] H s (fun _ _ _ => False) e s' → False) :
    PySem.W.WalkO q loose XP YP l.row.toRowW d [] (fun f vs => PySem.call f vs) := by
  refine Att.attach_callB hn hdf fun w s₀ s₁ mg mb fa o pm cd doc a vs ns G Y ho hd hcd hmg hobj hints hlen hb hg => ?_
  have KX := hY w _ Y
  obtain ⟨fd, hbi, hF⟩ := F w mg fa _ KX G.T.g hmg
  exact law_call KX G.T.g G.T.b G.T.builtins G.T.nolimit hg hobj hints (Nat.le_trans hlen hn2) hr hF hbi (fun H hO hS => hsp w H a ns hlen hb hO hS) fun H e s' => hCX w H s₁ e s'
theorem walk_ofBK {l : PySem.W.OpenLaw} {n k : Nat} {q : Program} {loose : List Str} {XP : (Str → Option Value) → Heap → Prop} {YP : World → Heap → Prop} {d : DefRec} {K : Params → PySem.W.Frag} {CX : CXT} {sp : PySem.W.Frag → Sp} {x : Str}
    (hn : l.most = some n) (hn2 : n ≤ sizeLine) (hdf : d.params.defaults = []) (hr : Room k callerA)
    (hY : ∀ (w : World) (h : Heap), YP w h → (K w.params).In h)
    (F : ∀ (w : World) (mg : Str → Option Value) (fa : Addr) (h : Heap), (K w.params).In h → h.Ns mainGlobals mg → mg d.name = some (.ref fa) →
      ∃ fd : FuncData, (∀ (s : Shared) (u : Value), BindsTo s fd ⟨[u], []⟩ [(x, u)]) ∧
        ∀ base : Heap, (K w.params).In base → base.Ns mainGlobals mg → FnOk l.prog w (K w.params) mg base CX k fa fd [x] (sp (K w.params)))
    (hsp : ∀ (K : PySem.W.Frag) (H : Hp) (a : Addr) (ns : List Int), ns.length ≤ n → (∀ z ∈ ns, Builtin.Int.intBits z ≤ 1048576) → Only H → SqL K H a (ns.map V.int) → sp K [.ref a] H (fun v _ => v = .bl true) fun _ _ _ => False)
    (hCX : ∀ (H : Hp) (s : Shared) (e : Value) (s' : Shared), CX [] H s (fun _ _ _ => False) e s' → False) :
    PySem.W.WalkO q loose XP YP l.row.toRowW d [] (fun f vs => PySem.call f vs) :=
  walk_ofB (K := K) (CX := fun _ => CX) (sp := fun w => sp (K w.params)) hn hn2 hdf hr hY F (fun w H a ns h1 hb h2 h3 => hsp (K w.params) H a ns h1 hb h2 h3) fun _ H s e s' => hCX H s e s'
/-- all that was tracked but at p is as it was -/
def SameE (p : Addr) (H H' : Hp) : Prop := ∀ b o, H b = some o → b ≠ p → H' b = some o
theorem SameE.refl (p : Addr) (H : Hp) : SameE p H H := fun _ _ h _ => h
theorem SameE.trans {p : Addr} {H H1 H2 : Hp} (a : SameE p H H1) (b : SameE p H1 H2) : SameE p H H2 := fun c o h n => b c o (a c o h n) n
theorem Same.e {p : Addr} {H H1 : Hp} (a : Same H H1) : SameE p H H1 := fun c o h _ => a c o h
theorem Same.new {H : Hp} {p : Addr} {o : HO} (h : H p = none) : Same H (upd H p o) := fun b u e => by rw [upd_ne (ne_of_none e h)]; exact e
theorem SameE.put {H : Hp} {p : Addr} {o : HO} : SameE p H (upd H p o) := fun b u e n => by rw [upd_ne n]; exact e
theorem SameE.seq {K : PySem.W.Frag} {H H' : Hp} {a p : Addr} {xs ys : List V} (e : SameE p H H') (h : SqL K H a xs) (hp : H p = some (.lst ys)) (hn : a ≠ p) : SqL K H' a xs := by
  rcases h with (h | ⟨o, h⟩) | h
  · exact .inl (.inl (e _ _ h hn))
  · exact .inl (.inr ⟨o, e _ _ h hn⟩)
  · exact .inr h
end L2

namespace L2
open PySem PySem.Spec PyProof.Rows
def FR (J : It) (g : TG) (tb : TS) (D : Ends) (σ : St) (H1 : Hp) : Prop := ∃ W : Nat → Nat → St → Hp → Prop, (∃ m, W 0 m σ H1) ∧ ∀ i m σ H, W i m σ H →
  (J.stop i H ∧ D.nx σ H) ∨ (J.go i H ∧ ∃ N : St → Hp → Prop, (∀ σ' H', N σ' H' → ∃ m', m' < m ∧ W (i + 1) m' σ' H') ∧ ∀ x H', J.yld i H x H' → g x σ H' fun σ2 H2 => tb { D with nx := N, ct := N, bk := D.nx } σ2 H2)
theorem tFor_rng1 {ta : TA} {g : TG} {tb : TS} : tFor (iRng1 ta) g tb = fun D σ H => ta σ H fun vs H1 => ∃ j : Int, vs = [.int j] ∧ -(2 ^ 62) ≤ j ∧ j < 2 ^ 62 ∧ FR (Itr 0 j.toNat) g tb D σ H1 := rfl
theorem tFor_rng2 {ta : TA} {g : TG} {tb : TS} : tFor (iRng2 ta) g tb = fun D σ H => ta σ H fun vs H1 => ∃ i j : Int, vs = [.int i, .int j] ∧ (-(2 ^ 62) ≤ i ∧ i < 2 ^ 62 ∧ -(2 ^ 62) ≤ j ∧ j < 2 ^ 62) ∧ FR (Itr i (j - i).toNat) g tb D σ H1 := rfl
theorem tFor_list {K : PySem.W.Frag} {tl : TE} {g : TG} {tb : TS} : tFor (iList K tl) g tb = fun D σ H => tl σ H fun x H1 => ∃ a, x = .ref a ∧ (∃ xs, SqL K H1 a xs) ∧ FR (Itl K a) g tb D σ H1 := rfl
theorem tFor_tup {K : PySem.W.Frag} {tl : TE} {g : TG} {tb : TS} : tFor (iTup K tl) g tb = fun D σ H => tl σ H fun x H1 => ∃ a, x = .ref a ∧ (∃ xs, SqT K H1 a xs) ∧ FR (Itt K a) g tb D σ H1 := rfl
def CmR (J : It) (g : TG) (tc : TT) (te : TE) (k : Nat) (fr : List Nat) (σ : St) (H1 : Hp) (Q : VK) : Prop := ∀ D, H1 D = none → ∃ W : Nat → Nat → Hp → Prop, (∃ m, W 0 m (upd H1 D (.lst []))) ∧ ∀ i m H, W i m H →
  (J.stop i H ∧ Q (.ref D) H) ∨ (J.go i H ∧ ∀ x H', J.yld i H x H' → g x (st0 k fr σ) H' fun σ2 H2 => Keep (st0 k fr σ) σ2 ∧ tc σ2 H2 fun ok H3 =>
    if ok = true then te σ2 H3 fun y H4 => ∃ ys, H4 D = some (.lst ys) ∧ ys.length < sizeLine ∧ ∃ m', m' < m ∧ W (i + 1) m' (upd H4 D (.lst (ys ++ [y])))
    else ∃ m', m' < m ∧ W (i + 1) m' H3)
theorem tComp_rng1 {ta : TA} {g : TG} {tc : TT} {te : TE} {k : Nat} {fr : List Nat} : tComp (iRng1 ta) g tc te k fr = fun σ H Q => ta σ H fun vs H1 => ∃ j : Int, vs = [.int j] ∧ -(2 ^ 62) ≤ j ∧ j < 2 ^ 62 ∧ CmR (Itr 0 j.toNat) g tc te k fr σ H1 Q := rfl
theorem tComp_rng2 {ta : TA} {g : TG} {tc : TT} {te : TE} {k : Nat} {fr : List Nat} : tComp (iRng2 ta) g tc te k fr = fun σ H Q => ta σ H fun vs H1 => ∃ i j : Int, vs = [.int i, .int j] ∧ (-(2 ^ 62) ≤ i ∧ i < 2 ^ 62 ∧ -(2 ^ 62) ≤ j ∧ j < 2 ^ 62) ∧ CmR (Itr i (j - i).toNat) g tc te k fr σ H1 Q := rfl
theorem tComp_list {K : PySem.W.Frag} {tl : TE} {g : TG} {tc : TT} {te : TE} {k : Nat} {fr : List Nat} : tComp (iList K tl) g tc te k fr = fun σ H Q => tl σ H fun x H1 => ∃ a, x = .ref a ∧ (∃ xs, SqL K H1 a xs) ∧ CmR (Itl K a) g tc te k fr σ H1 Q := rfl
theorem tComp_tup {K : PySem.W.Frag} {tl : TE} {g : TG} {tc : TT} {te : TE} {k : Nat} {fr : List Nat} : tComp (iTup K tl) g tc te k fr = fun σ H Q => tl σ H fun x H1 => ∃ a, x = .ref a ∧ (∃ xs, SqT K H1 a xs) ∧ CmR (Itt K a) g tc te k fr σ H1 Q := rfl
theorem keep_set {fr : List Nat} {σ : St} {v : Option V} : Keep (st0 1 fr σ) ((st0 1 fr σ).set 0 v) := by
  refine ⟨by simp, fun i w h => ?_⟩
  cases i with
  | zero => simp [st0, List.replicate] at h
  | succ i => simpa [st0, List.replicate] using h
theorem cxK {CX : CXT} {P : Program} {w : World} {K : PySem.W.Frag} {mg : Str → Option Value} {base : Heap} {N : List Str} {qual : Str} {scope : Scope} {f : Addr} {cd : Value} {A : Around} {outer : List Env} {s : Shared} {H : Hp} {E : XK} : (cxOf CX P w K mg base N qual scope f cd A outer s H E).K = K := rfl
theorem cmK {X : Cx} {scope : Scope} {N' : List Str} {fp : List Addr} {C : Addr} {s : Shared} {H : Hp} : (compCx X scope N' fp C s H).K = X.K := rfl
theorem atI_mem {α : Type} {xs : List α} {i : Int} (h0 : 0 ≤ i) (h1 : i < xs.length) : ∃ v, atI xs i = some v ∧ v ∈ xs := by
  obtain ⟨j, rfl⟩ := Int.eq_ofNat_of_zero_le h0
  have hj : j < xs.length := by omega
  exact ⟨xs[j], atI_nat (by simp [hj]), List.getElem_mem hj⟩
theorem bt_isinstance : bootBuiltins "isinstance" = some (.builtin "isinstance") := by decide +kernel
theorem bt_int : bootBuiltins "int" = some (.type "int") := by decide +kernel
theorem bt_str : bootBuiltins "str" = some (.type "str") := by decide +kernel
theorem bt_tuple : bootBuiltins "tuple" = some (.type "tuple") := by decide +kernel
theorem bt_list : bootBuiltins "list" = some (.type "list") := by decide +kernel
/-- a display of written ints -/
def intsOf : List Expr → Option (List Int)
  | [] => some []
  | .Constant (.int i) _ _ :: r => (intsOf r).map (i :: ·)
  | _ :: _ => none
end L2

namespace L2
open PySem PySem.Spec PyProof.Rows PySem.W
/-- an exception flies out of a call: what stood and is not tracked is kept (in B, which no flight touches), what is tracked is as H' tells; E of its class -/
def CXr (P : Program) (w : World) : CXT := fun outer H s E ev s' => ∃ (e : Addr) (cls a0 : Value) (B : Heap) (H' : Hp), ev = .ref e ∧ s'.os = s.os ∧ AllBare s'.gens ∧ Heap.FlyingW B outer e cls a0 s'.heap ∧ HOk P w H' B ∧
  Un (frs outer) [] H H' s.heap s'.heap ∧ (∀ b o, s.heap.get? b = some o → H b = none → b ∉ frs outer → B.get? b = some o) ∧ (∀ b o, s.heap.get? b = some o → b ∉ frs outer → ∃ o', B.get? b = some o') ∧ E cls none H'
section
variable {P : Program} {w : World} {K : PySem.W.Frag} {mg : Str → Option Value} {base : Heap} {N : List Str} {qual : Str} {scope : Scope} {f : Addr} {cd : Value} {A : Around} {outer : List Env} {s : Shared} {H : Hp} {E : XK}
end
/-! ### raise C(args), C an own class under a class of Python's own, without an __init__ -/
section
variable {X : Cx}
def tRaise (ta : TA) (Ex : Hp → Prop) : TS := fun _ σ H => ta σ H fun vs H1 => vs.length ≤ sizeLine ∧ Ex H1
end
section
variable {P : Program} {w : World} {K : PySem.W.Frag} {mg : Str → Option Value} {base : Heap}
end
end L2

namespace L2
open PySem PySem.Spec PyProof.Rows PySem.W
section
variable {M : Model} {A : Around} {E : Value → Shared → Prop}
variable {nm q : Str} {C N : Addr} {bs bm : List Value} {hdct : Bool} {sn : List Str} {sub : List Value} {ab : Bool} {col : Option Bool} {dd : Option Addr} {k0 k1 k2 k3 k5 : Option Value} {newId : String}
variable {nm' q' : Str} {C' N' : Addr} {bs' bm' : List Value} {hdct' : Bool} {sn' : List Str} {sub' : List Value} {ab' : Bool} {col' : Option Bool} {dd' : Option Addr} {k0' k1' k2' k3' k5' : Option Value} {newId' : String}
end
/-! ### behind an except .. as n: n is gone -/
section
variable {X : Cx} {pins : List (Addr × Obj)} {σ : St} {H : Hp} {s : Shared}
end
end L2

namespace L2
open PySem PySem.Spec PyProof.Rows PySem.W
/-- an exception of the class C lies at e -/
def ExcAt (e : Addr) (C : Value) (h : Heap) : Prop := ∃ o, h.get? e = some o ∧ o.cls = C
theorem ObjOk.there {P : Program} {w : World} {H : Hp} {h : Heap} {a : Addr} {o : HO} (x : ObjOk P w H h a o) : ∃ ob, h.get? a = some ob := by
  cases o with
  | lst xs => obtain ⟨_, _, _, _, e⟩ := x; exact ⟨_, e⟩
  | tup xs => obtain ⟨_, _, _, ob, e, _⟩ := x; exact ⟨_, e⟩
  | dK kvs => obtain ⟨_, _, _, _, o, _, _, e, _⟩ := x; exact ⟨_, e⟩
  | dT kvs => obtain ⟨_, _, _, _, o, _, _, e, _⟩ := x; exact ⟨_, e⟩
  | set S n => obtain ⟨o, _, _, _, e, _⟩ := x; exact ⟨_, e⟩
  | ins C dx fs => obtain ⟨_, _, _, e, _⟩ := x; exact ⟨_, e⟩
  | own y => exact x
  | xd fs => obtain ⟨_, ⟨_, _, _, e, _⟩, _⟩ := x; exact ⟨_, e⟩
  | rng lo hi => obtain ⟨_, _, _, e⟩ := x; exact ⟨_, e⟩
  | frz ob u => obtain ⟨e, _⟩ := x; exact ⟨_, e⟩
  | tbl ps => exact ⟨_, (show h.get? a = some _ from x)⟩
  | met f y => exact ⟨_, (show h.get? a = some _ from x)⟩
  | ext φ => exact x.2.1
/-- the suite's context -/
abbrev Cx.inEx (X : Cx) (e : Addr) : Cx := { X with A := X.A.mark (some (.ref e)), calm := false, xe := fun _ _ => False }
theorem Cx.Ok.inEx {X : Cx} (ok : X.Ok) (e : Addr) : (X.inEx e).Ok :=
  ⟨ok.mod, ok.kind, ok.glob, ok.blt, ok.above, ok.inj, ok.has, ok.cab, fun z => absurd z (by simp), ok.frames, ok.stk, ok.exf, ok.bs, ok.bsz, ok.noex, ok.exfs, ok.funs, ok.frf⟩
section
variable {X : Cx} {pins : List (Addr × Obj)} {σ : St} {H : Hp} {s : Shared}
theorem Inv.inEx (I : Inv X pins σ H s) (e : Addr) : Inv (X.inEx e) pins σ H s := ⟨I.ok.inEx e, I.os, I.bare, I.base, I.loc, I.cell, I.free, I.freeC, I.pin, I.hok, I.len⟩
end
section
variable {X : Cx} {CX : CXT} {k : Nat} {f C C' : Addr} {fd : FuncData} {ps : List Str} {sp : Sp} {x c n : Str} {p cp ep np hp tp : Pos} {a : Expr} {as : List Expr} {b₀ : Stmt} {suite : List Stmt} {t : TA} {i : Nat} {ts : TS}
def tTry (sp : Sp) (t : TA) (C : Addr) (i : Nat) (ts : TS) : TS := fun D σ H => t σ H fun vs H1 => sp vs H1 (fun _ H2 => D.nx σ H2) (fun cls _ H2 => cls = .ref C ∧ ∀ e, H2 e = none →
  ts { nx := fun σ' H' => D.nx (σ'.set i none) H', rt := fun _ _ => False } (σ.set i (some (.ref e))) (upd H2 e (.ext (ExcAt e (.ref C)))))
end
end L2

namespace L2
open PySem PySem.Spec PyProof.Rows
section
variable {X : Cx}
theorem bools_of {bs : List Bool} {its : List Value} (r : Vals (bs.map V.bl) its) : its = bs.map Value.bool := by
  induction bs generalizing its with
  | nil => cases r; rfl
  | cons b bs ih =>
    rw [List.map_cons] at r
    cases r with
    | cons r1 r2 =>
      rw [List.map_cons, ← ih r2]
      exact congrArg (· :: _) r1
theorem range_all (bs : List Bool) (f : Nat → Bool) (h : ∀ i, i < bs.length → f i = bs.getD i true) : (List.range bs.length).all f = bs.all id := by
  rw [Bool.eq_iff_iff, List.all_eq_true, List.all_eq_true]
  constructor
  · intro z b hb
    obtain ⟨i, hi, e⟩ := List.getElem_of_mem hb
    have := z i (List.mem_range.mpr hi)
    rw [h i hi, List.getD_eq_getElem?_getD, List.getElem?_eq_getElem hi] at this
    rw [← e]; exact this
  · intro z i hi
    have hi := List.mem_range.mp hi
    rw [h i hi, List.getD_eq_getElem?_getD, List.getElem?_eq_getElem hi]
    exact z _ (List.getElem_mem hi)
theorem range_any (bs : List Bool) (f : Nat → Bool) (h : ∀ i, i < bs.length → f i = bs.getD i true) : (List.range bs.length).any f = bs.any id := by
  rw [Bool.eq_iff_iff, List.any_eq_true, List.any_eq_true]
  constructor
  · rintro ⟨i, hi, z⟩
    have hi := List.mem_range.mp hi
    rw [h i hi, List.getD_eq_getElem?_getD, List.getElem?_eq_getElem hi] at z
    exact ⟨_, List.getElem_mem hi, z⟩
  · rintro ⟨b, hb, z⟩
    obtain ⟨i, hi, e⟩ := List.getElem_of_mem hb
    refine ⟨i, List.mem_range.mpr hi, ?_⟩
    rw [h i hi, List.getD_eq_getElem?_getD, List.getElem?_eq_getElem hi]
    show bs[i] = true
    rw [e]; exact z
theorem bool_at {bs : List Bool} {i : Nat} {v : Value} (h : (bs.map Value.bool).toArray[i]? = some v) : v = .bool (bs.getD i true) := by
  have h' : (bs.map Value.bool)[i]? = some v := by simpa using h
  rw [List.getElem?_map] at h'
  cases e : bs[i]? with
  | none => rw [e] at h'; cases h'
  | some b =>
    rw [e] at h'
    rw [List.getD_eq_getElem?_getD, e]
    exact (Option.some.inj h').symm
theorem iter_boolList {prog : Program} {w : World} {A : Around} {E : Value → Shared → Prop} {s : Shared} {l : Addr} {items : Array Value} {Q : Value → Shared → Prop} (hl : s.heap.IsList l items)
    (h : ∀ s₂ : Shared, s₂ = { s with heap := s.heap.push { cls := .type "list_iterator", data := .fields #[.ref l, .int 0 0] } } →
      (s₂.heap.IsListIter s.heap.objs.size l 0 ∧ s₂.heap.IsList l items) → l ≠ s.heap.objs.size → Q (.ref s.heap.objs.size) s₂) : wpAny (model prog w) A (pyIter (.ref l)) Q E s := by
  have hlt : l < s.heap.objs.size := by obtain ⟨_, e, _⟩ := hl; exact Heap.lt_size e
  exact wpAny_pyIter_list hl (h _ rfl ⟨⟨_, Heap.get?_push_size _ rfl, rfl, rfl⟩, hl.push _⟩ (Nat.ne_of_lt hlt))
theorem call_all (hc : X.calm = true) : CallR X (.builtin "all") (fun xs H Q => ∃ (a : Addr) (bs : List Bool), xs = [.ref a] ∧ SqL X.K H a (bs.map V.bl) ∧ Q (.bl (bs.all id)) H) := by
  intro pins s σ H xs us Q I r h
  obtain ⟨a, bs, rfl, hl, q⟩ := h
  obtain ⟨u, rfl, rx⟩ := vals1 r
  cases rx
  obtain ⟨its, rv, p, hz⟩ := I.list hl
  have hi := bools_of rv
  subst hi
  refine call_all_walk (iter_boolList p.isList fun s₂ e st hlI => ?_)
  subst e
  refine ⟨_, _, _, _, _, _, fun i => bs.getD i true, rfl, Walks.list (A := X.A.in1) (I.ok.hd hc) _ a hlI _, st, fun i v s' Q' E' hP hq => by rw [bool_at hP]; exact wpAny_truthy_bool hq, fun h' tk hk => ?_⟩
  have e := range_all bs (fun i => bs.getD i true) fun _ _ => rfl
  have e2 : (List.map Value.bool bs).toArray.size = bs.length := by simp
  rw [e2, e]
  exact ⟨.bl (bs.all id), H, I.kept (old_kept hk), rfl, q⟩
theorem call_any (hc : X.calm = true) : CallR X (.builtin "any") (fun xs H Q => ∃ (a : Addr) (bs : List Bool), xs = [.ref a] ∧ SqL X.K H a (bs.map V.bl) ∧ Q (.bl (bs.any id)) H) := by
  intro pins s σ H xs us Q I r h
  obtain ⟨a, bs, rfl, hl, q⟩ := h
  obtain ⟨u, rfl, rx⟩ := vals1 r
  cases rx
  obtain ⟨its, rv, p, hz⟩ := I.list hl
  have hi := bools_of rv
  subst hi
  refine call_any_walk (iter_boolList p.isList fun s₂ e st hlI => ?_)
  subst e
  refine ⟨_, _, _, _, _, _, fun i => bs.getD i true, rfl, Walks.list (A := X.A.in1) (I.ok.hd hc) _ a hlI _, st, fun i v s' Q' E' hP hq => by rw [bool_at hP]; exact wpAny_truthy_bool hq, fun h' tk hk => ?_⟩
  have e := range_any bs (fun i => bs.getD i true) fun _ _ => rfl
  have e2 : (List.map Value.bool bs).toArray.size = bs.length := by simp
  rw [e2, e]
  exact ⟨.bl (bs.any id), H, I.kept (old_kept hk), rfl, q⟩
end
end L2

namespace L2
open PySem PySem.Spec PyProof.Rows PySem.W PySem.Calls PySem.Builtin.ObjectAttr PySem.Builtin PySem.Builtin.Getset_descriptor
section
variable {prog : Program} {w : World} {A : Around} {E : Value → Shared → Prop} {s : Shared} {K : PySem.W.Frag} {x C : Addr}
theorem ExcAt.type {M : Model} {h : Heap} (p : ExcAt x (.ref C) h) : Looks M h (typeOf (.ref x)) (.ref C) := by
  obtain ⟨o, h1, h2⟩ := p
  exact h2 ▸ (Looks.ld h1).andThen .now
structure ExcK (K : PySem.W.Frag) (C : Addr) : Prop where
  ga : findIn K (.ref C) "__getattribute__" = some (some (.builtin "BaseException.__getattribute__"))
  hk : findIn K (.ref C) "__getattr__" = some none
  cl : findIn K (.ref C) "__class__" = some (some (.builtin "object.__class__"))
  gt : specialIn K (.builtin "object.__class__") "__get__" = some (some (.builtin "getset_descriptor.__get__"))
  tk : takesIn K (.builtin "object.__class__") = some true
  ob : mroIn K C (.type "object") = some true
  be : mroIn K C (.type "BaseException") = some true
  cd : (clsIn K C).isSome = true
end
section
variable {X : Cx}
end
end L2

namespace L2
open PySem PySem.Spec PyProof.Rows PySem.W
mutual
/-- a value as data: texts, numbers, truths, None, tuples and lists of these -/
inductive Rep (K : PySem.W.Frag) (H : Hp) : V → PyData → Prop
  | non : Rep K H .non .none
  | bl (b : Bool) : Rep K H (.bl b) (.bool b)
  | int (i : Int) : Rep K H (.int i) (.int i)
  | str (x : Str) : Rep K H (.str x) (.str x)
  | tup {a : Addr} {xs : List V} {ds : List PyData} : SqT K H a xs → Reps K H xs ds → Rep K H (.ref a) (.tuple ds)
  | lst {a : Addr} {xs : List V} {ds : List PyData} : SqL K H a xs → Reps K H xs ds → Rep K H (.ref a) (.list ds)
inductive Reps (K : PySem.W.Frag) (H : Hp) : List V → List PyData → Prop
  | nil : Reps K H [] []
  | cons {v : V} {d : PyData} {vs : List V} {ds : List PyData} : Rep K H v d → Reps K H vs ds → Reps K H (v :: vs) (d :: ds)
end
section
variable {X : Cx} {pins : List (Addr × Obj)} {σ : St} {H : Hp} {s : Shared}
mutual
theorem rep_reads (I : Inv X pins σ H s) : ∀ {v : V} {d : PyData} {u : Value}, Rep X.K H v d → RelV v u → ∃ as, Reads s.heap u d as
  | _, _, _, .non, r => by cases r; exact ⟨_, Reads.none⟩
  | _, _, _, .bl b, r => by cases r; exact ⟨_, Reads.bool b⟩
  | _, _, _, .int i, r => by obtain ⟨t, rfl⟩ := r; exact ⟨_, Reads.int i t⟩
  | _, _, _, .str x, r => by obtain ⟨t, rfl⟩ := r; exact ⟨_, Reads.str x t⟩
  | _, _, _, .tup h hs, r => by
    cases r
    obtain ⟨its, rv, ⟨o, e, c, n, dd⟩, _⟩ := I.tuple h
    obtain ⟨as, q⟩ := reps_reads I hs rv
    exact ⟨as, reads_tuple_at e c dd (by simpa using q)⟩
  | _, _, _, .lst h hs, r => by
    cases r
    obtain ⟨its, rv, ⟨o, n, e, c, _, dd⟩, _⟩ := I.list h
    obtain ⟨as, q⟩ := reps_reads I hs rv
    exact ⟨_, reads_list_at e c dd (by simpa using q)⟩
theorem reps_reads (I : Inv X pins σ H s) : ∀ {vs : List V} {ds : List PyData} {us : List Value}, Reps X.K H vs ds → Vals vs us → ∃ as, ReadsAll s.heap us ds as
  | _, _, _, .nil, r => by cases r; exact ⟨_, ReadsAll.nil⟩
  | _, _, _, .cons h hs, r => by
    cases r with
    | cons r1 r2 =>
      obtain ⟨as, q⟩ := rep_reads I h r1
      obtain ⟨bs, p⟩ := reps_reads I hs r2
      exact ⟨_, ReadsAll.cons q p⟩
end
end
section
variable {X : Cx}
abbrev Shp (d : PyData) : Prop := SeqAt.shaped d = true
def rEqD (K : PySem.W.Frag) : R2 := fun x y H Q => ∃ dx dy, Rep K H x dx ∧ Rep K H y dy ∧ Shp dx ∧ Shp dy ∧ Q (.bl (PyData.eqv dx dy)) H
def rNeD (K : PySem.W.Frag) : R2 := fun x y H Q => ∃ dx dy, Rep K H x dx ∧ Rep K H y dy ∧ Shp dx ∧ Shp dy ∧ Q (.bl (!PyData.eqv dx dy)) H
theorem Same.tup {K : PySem.W.Frag} {H H' : Hp} {a : Addr} {xs : List V} (e : Same H H') (h : SqT K H a xs) : SqT K H' a xs := by
  rcases h with (h | ⟨o, h⟩) | h
  · exact .inl (.inl (e _ _ h))
  · exact .inl (.inr ⟨o, e _ _ h⟩)
  · exact .inr h
end

/-- a comprehension over a list, a tuple or a range: the items that pass, each turned by f -/
structure Src (J : It) (H : Hp) (xs : List V) : Prop where
  go : ∀ i H', Same H H' → i < xs.length → J.go i H'
  yl : ∀ i H' x H'', Same H H' → J.yld i H' x H'' → H'' = H' ∧ xs[i]? = some x
  st : ∀ i H', Same H H' → xs.length ≤ i → J.stop i H'
theorem Src.list {K : PySem.W.Frag} {H : Hp} {a : Addr} {xs : List V} (h : SqL K H a xs) : Src (Itl K a) H xs :=
  ⟨fun i H' s hi => ⟨xs, xs[i], s.seq h, by simp [hi]⟩, fun i H' x H'' s y => ⟨y.1, y.2 xs (s.seq h)⟩, fun i H' s hi => ⟨xs, s.seq h, hi⟩⟩
theorem Src.tup {K : PySem.W.Frag} {H : Hp} {a : Addr} {xs : List V} (h : SqT K H a xs) : Src (Itt K a) H xs :=
  ⟨fun i H' s hi => ⟨xs, xs[i], s.tup h, by simp [hi]⟩, fun i H' x H'' s y => ⟨y.1, y.2 xs (s.tup h)⟩, fun i H' s hi => ⟨xs, s.tup h, hi⟩⟩
theorem bt_all : bootBuiltins "all" = some (.builtin "all") := by decide +kernel
theorem bt_any : bootBuiltins "any" = some (.builtin "any") := by decide +kernel
end L2

/-! data, with a set of addresses (lists under way) that it must not reach -/
namespace L2
open PySem PySem.Spec PyProof.Rows PySem.W
/-- a list of one number, whatever it is -/
def IsPack (p : Addr) (h : Heap) : Prop := ∃ (n : Int) (t : Tok) (k : Nat), h.get? p = some { cls := .type "list", data := .seq #[.int n t] k }
abbrev packO (p : Addr) : HO := .ext (IsPack p)
abbrev packD : PyData := .dict [(.none, .none)]
/-- the script: a list that is only read -/
abbrev scrD (ds : List PyData) : PyData := .dict [(.none, .list ds)]
/-- a dict with texts for keys, read only -/
abbrev dicP (kp ds : List PyData) : PyData := .dict [(.bool true, .tuple [.list kp, .list ds])]
abbrev Ex := Addr → Prop
abbrev H00 : Hp := fun _ => none
mutual
inductive Dt (K : PySem.W.Frag) (H : Hp) (O : Ex) : V → PyData → Prop
  | non : Dt K H O .non .none
  | bl (b : Bool) : Dt K H O (.bl b) (.bool b)
  | int (i : Int) : Dt K H O (.int i) (.int i)
  | str (x : Str) : Dt K H O (.str x) (.str x)
  | tup {a : Addr} {xs : List V} {ds : List PyData} : Rd H a (.tup xs) → ¬ O a → Dts K H O xs ds → Dt K H O (.ref a) (.tuple ds)
  | tupK {a : Addr} {xs : List V} {ds : List PyData} : SqT K H00 a xs → Dts K H O xs ds → Dt K H O (.ref a) (.tuple ds)
  | lst {a : Addr} {xs : List V} {ds : List PyData} : Rd H a (.lst xs) → ¬ O a → Dts K H O xs ds → Dt K H O (.ref a) (.list ds)
  | pack {p : Addr} : H p = some (packO p) → ¬ O p → Dt K H O (.ref p) packD
  | dct0 {a : Addr} : H a = some (.dK []) → ¬ O a → Dt K H O (.ref a) (.dict [])
  | dic {a : Addr} {kv : List (Key × V)} {ks : List Str} {kp ds : List PyData} : H a = some (.dK kv) → kv.map (·.1) = ks.map Sum.inr → kp = ks.map PyData.str → ¬ O a → Dts K H O (kv.map (·.2)) ds → Dt K H O (.ref a) (dicP kp ds)
  | scr {a : Addr} {xs : List V} {ds : List PyData} : (Rd H a (.lst xs) ∧ ¬ O a) ∨ SqL K H00 a xs → Dts K H O xs ds → Dt K H O (.ref a) (scrD ds)
inductive Dts (K : PySem.W.Frag) (H : Hp) (O : Ex) : List V → List PyData → Prop
  | nil : Dts K H O [] []
  | cons {v : V} {d : PyData} {vs : List V} {ds : List PyData} : Dt K H O v d → Dts K H O vs ds → Dts K H O (v :: vs) (d :: ds)
end
theorem Rd.same {H H' : Hp} {a : Addr} {u : HO} (s : ∀ o, H a = some o → H' a = some o) (h : Rd H a u) : Rd H' a u := by
  rcases h with h | ⟨o, h⟩
  · exact .inl (s _ h)
  · exact .inr ⟨o, s _ h⟩
theorem Rd.trk {H : Hp} {a : Addr} {u : HO} (h : Rd H a u) : H a ≠ none := by
  rcases h with h | ⟨o, h⟩ <;> rw [h] <;> exact fun z => nomatch z
section
variable {K : PySem.W.Frag}
/-- the data stays where all but O stays, and reaches no newly named address that was not tracked -/
structure Step (H H' : Hp) (O O' : Ex) : Prop where
  keep : ∀ b o, H b = some o → ¬ O b → H' b = some o
  out : ∀ b, H b ≠ none → ¬ O b → ¬ O' b
mutual
theorem Dt.step {H H' : Hp} {O O' : Ex} (S : Step H H' O O') : ∀ {v : V} {d : PyData}, Dt K H O v d → Dt K H' O' v d
  | _, _, .non => .non
  | _, _, .bl b => .bl b
  | _, _, .int i => .int i
  | _, _, .str x => .str x
  | _, _, .tup h n r => .tup (h.same fun o e => S.keep _ o e n) (S.out _ h.trk n) (Dts.step S r)
  | _, _, .tupK h r => .tupK h (Dts.step S r)
  | _, _, .lst h n r => .lst (h.same fun o e => S.keep _ o e n) (S.out _ h.trk n) (Dts.step S r)
  | _, _, .pack h n => .pack (S.keep _ _ h n) (S.out _ (by rw [h]; exact fun z => nomatch z) n)
  | _, _, .dct0 h n => .dct0 (S.keep _ _ h n) (S.out _ (by rw [h]; exact fun z => nomatch z) n)
  | _, _, .dic h e1 e2 n r => .dic (S.keep _ _ h n) e1 e2 (S.out _ (by rw [h]; exact fun z => nomatch z) n) (Dts.step S r)
  | _, _, .scr h r => .scr (h.imp (fun h => ⟨h.1.same fun o e => S.keep _ o e h.2, S.out _ h.1.trk h.2⟩) id) (Dts.step S r)
theorem Dts.step {H H' : Hp} {O O' : Ex} (S : Step H H' O O') : ∀ {vs : List V} {ds : List PyData}, Dts K H O vs ds → Dts K H' O' vs ds
  | _, _, .nil => .nil
  | _, _, .cons h r => .cons (Dt.step S h) (Dts.step S r)
end
theorem Step.same {H H' : Hp} {O : Ex} (s : Same H H') : Step H H' O O := ⟨fun b o e _ => s b o e, fun _ _ n => n⟩
theorem Dt.mono {H H' : Hp} {O : Ex} {v : V} {d : PyData} (s : Same H H') (h : Dt K H O v d) : Dt K H' O v d := h.step (.same s)
theorem Dts.mono {H H' : Hp} {O : Ex} {v : List V} {d : List PyData} (s : Same H H') (h : Dts K H O v d) : Dts K H' O v d := h.step (.same s)
theorem Dts.length {H : Hp} {O : Ex} : ∀ {vs : List V} {ds : List PyData}, Dts K H O vs ds → vs.length = ds.length
  | _, _, .nil => rfl
  | _, _, .cons _ r => by rw [List.length_cons, List.length_cons, Dts.length r]
theorem Dts.get {H : Hp} {O : Ex} : ∀ {vs : List V} {ds : List PyData} {i : Nat} {v : V}, Dts K H O vs ds → vs[i]? = some v → ∃ d, ds[i]? = some d ∧ Dt K H O v d
  | _, _, _, _, .nil, e => by simp at e
  | _, _, 0, _, .cons h _, e => by simp at e; subst e; exact ⟨_, rfl, h⟩
  | _, _, i + 1, _, .cons _ r, e => by simpa using Dts.get (i := i) r (by simpa using e)
theorem Dts.getD {H : Hp} {O : Ex} : ∀ {vs : List V} {ds : List PyData} {i : Nat} {d : PyData}, Dts K H O vs ds → ds[i]? = some d → ∃ v, vs[i]? = some v ∧ Dt K H O v d
  | _, _, _, _, .nil, e => by simp at e
  | _, _, 0, _, .cons h _, e => by simp at e; subst e; exact ⟨_, rfl, h⟩
  | _, _, i + 1, _, .cons _ r, e => by simpa using Dts.getD (i := i) r (by simpa using e)
theorem Dts.append {H : Hp} {O : Ex} : ∀ {vs ws : List V} {ds es : List PyData}, Dts K H O vs ds → Dts K H O ws es → Dts K H O (vs ++ ws) (ds ++ es)
  | _, _, _, _, .nil, s => s
  | _, _, _, _, .cons h r, s => .cons h (Dts.append r s)
theorem Dts.take {H : Hp} {O : Ex} : ∀ {vs : List V} {ds : List PyData} (n : Nat), Dts K H O vs ds → Dts K H O (vs.take n) (ds.take n)
  | _, _, 0, _ => .nil
  | _, _, _ + 1, .nil => .nil
  | _, _, n + 1, .cons h r => .cons h (Dts.take n r)
theorem Dts.drop {H : Hp} {O : Ex} : ∀ {vs : List V} {ds : List PyData} (n : Nat), Dts K H O vs ds → Dts K H O (vs.drop n) (ds.drop n)
  | _, _, 0, r => r
  | _, _, _ + 1, .nil => .nil
  | _, _, n + 1, .cons _ r => Dts.drop n r
theorem Dts.reverse {H : Hp} {O : Ex} : ∀ {vs : List V} {ds : List PyData}, Dts K H O vs ds → Dts K H O vs.reverse ds.reverse
  | _, _, .nil => .nil
  | _, _, .cons h r => by rw [List.reverse_cons, List.reverse_cons]; exact (Dts.reverse r).append (.cons h .nil)
theorem Dts.ints {H : Hp} {O : Ex} : ∀ (ns : List Int), Dts K H O (ns.map V.int) (ns.map PyData.int)
  | [] => .nil
  | n :: r => .cons (.int n) (Dts.ints r)
/-- what lies within reach as data, be it a list under way itself -/
inductive Sh (K : PySem.W.Frag) (H : Hp) (O : Ex) : V → PyData → Prop
  | dt {v : V} {d : PyData} : Dt K H O v d → Sh K H O v d
  | own {l : Addr} {vs : List V} {ds : List PyData} : H l = some (.lst vs) → Dts K H O vs ds → Sh K H O (.ref l) (.list ds)
theorem Sh.mono {H H' : Hp} {O : Ex} {v : V} {d : PyData} (s : Same H H') : Sh K H O v d → Sh K H' O v d
  | .dt h => .dt (h.mono s)
  | .own h r => .own (s _ _ h) (r.mono s)
/-- without the set -/
theorem Dt.all {H : Hp} {O : Ex} {v : V} {d : PyData} (h : Dt K H O v d) : Dt K H (fun _ => False) v d := h.step ⟨fun _ _ e _ => e, fun _ _ _ z => z⟩
theorem Dts.all {H : Hp} {O : Ex} {v : List V} {d : List PyData} (h : Dts K H O v d) : Dts K H (fun _ => False) v d := h.step ⟨fun _ _ e _ => e, fun _ _ _ z => z⟩
theorem Sh.all {H : Hp} {O : Ex} {v : V} {d : PyData} : Sh K H O v d → Dt K H (fun _ => False) v d
  | .dt h => h.all
  | .own h r => .lst (.inl h) (fun z => z) r.all
theorem SqT.of0 {H : Hp} {a : Addr} {xs : List V} (h : SqT K H00 a xs) : SqT K H a xs := by
  rcases h with (h | ⟨o, h⟩) | h
  · cases h
  · cases h
  · exact .inr h
theorem SqL.of0 {H : Hp} {a : Addr} {xs : List V} (h : SqL K H00 a xs) : SqL K H a xs := by
  rcases h with (h | ⟨o, h⟩) | h
  · cases h
  · cases h
  · exact .inr h
theorem Sh.tup {H : Hp} {O : Ex} {v : V} {ds : List PyData} (h : Sh K H O v (.tuple ds)) : ∃ a xs, v = .ref a ∧ SqT K H a xs ∧ Dts K H O xs ds := by
  cases h with
  | dt h =>
    cases h with
    | tup h _ r => exact ⟨_, _, rfl, .inl h, r⟩
    | tupK h r => exact ⟨_, _, rfl, h.of0, r⟩
theorem Sh.lstR {H : Hp} {O : Ex} {v : V} {ds : List PyData} (h : Sh K H O v (.list ds)) : ∃ a xs, v = .ref a ∧ Rd H a (.lst xs) ∧ Dts K H O xs ds := by
  cases h with
  | dt h =>
    cases h with
    | lst h _ r => exact ⟨_, _, rfl, h, r⟩
  | own h r => exact ⟨_, _, rfl, .inl h, r⟩
theorem Sh.lst {H : Hp} {O : Ex} {v : V} {ds : List PyData} (h : Sh K H O v (.list ds)) : ∃ a xs, v = .ref a ∧ SqL K H a xs ∧ Dts K H O xs ds := by
  obtain ⟨a, xs, e, h, r⟩ := h.lstR
  exact ⟨a, xs, e, .inl h, r⟩
theorem Sh.scr {H : Hp} {O : Ex} {v : V} {ds : List PyData} (h : Sh K H O v (scrD ds)) : ∃ a xs, v = .ref a ∧ SqL K H a xs ∧ Dts K H O xs ds := by
  cases h with
  | dt h =>
    cases h with
    | scr h r =>
      rcases h with h | h
      · exact ⟨_, _, rfl, .inl h.1, r⟩
      · exact ⟨_, _, rfl, h.of0, r⟩
theorem Sh.int {H : Hp} {O : Ex} {v : V} {i : Int} (h : Sh K H O v (.int i)) : v = .int i := by cases h with | dt h => cases h; rfl
theorem Sh.bl {H : Hp} {O : Ex} {v : V} {i : Bool} (h : Sh K H O v (.bool i)) : v = .bl i := by cases h with | dt h => cases h; rfl
theorem Sh.str {H : Hp} {O : Ex} {v : V} {i : Str} (h : Sh K H O v (.str i)) : v = .str i := by cases h with | dt h => cases h; rfl
theorem Sh.non {H : Hp} {O : Ex} {v : V} (h : Sh K H O v .none) : v = .non := by cases h with | dt h => cases h; rfl
def scalD : PyData → Bool
  | .none | .bool _ | .int _ | .str _ => true
  | _ => false
theorem Dt.scal {H H' : Hp} {O O' : Ex} {v : V} {d : PyData} (h : Dt K H O v d) (e : scalD d = true) : Dt K H' O' v d := by
  cases h with
  | non => exact .non
  | bl b => exact .bl b
  | int i => exact .int i
  | str x => exact .str x
  | _ => exact absurd (show false = true from e) (by decide)
/-! the data as the model's equality reads it -/
def plainD : PyData → Bool := fun d => SeqAt.shaped d
end
section
variable {X : Cx} {pins : List (Addr × Obj)} {σ : St} {H : Hp} {s : Shared}
mutual
theorem dt_reads (I : Inv X pins σ H s) {O : Ex} : ∀ {v : V} {d : PyData} {u : Value}, Dt X.K H O v d → d.canLay0 = true → RelV v u → ∃ as, Reads s.heap u d as
  | _, _, _, .non, _, r => by cases r; exact ⟨_, Reads.none⟩
  | _, _, _, .bl b, _, r => by cases r; exact ⟨_, Reads.bool b⟩
  | _, _, _, .int i, _, r => by obtain ⟨t, rfl⟩ := r; exact ⟨_, Reads.int i t⟩
  | _, _, _, .str x, _, r => by obtain ⟨t, rfl⟩ := r; exact ⟨_, Reads.str x t⟩
  | _, _, _, .tup h _ hs, c, r => by
    cases r
    obtain ⟨its, rv, ⟨o, e, c', n, dd⟩, _⟩ := I.tuple (.inl h)
    obtain ⟨as, q⟩ := dts_reads I hs (by simpa [PyData.canLay0] using c) rv
    exact ⟨as, reads_tuple_at e c' dd (by simpa using q)⟩
  | _, _, _, .tupK h hs, c, r => by
    cases r
    obtain ⟨its, rv, ⟨o, e, c', n, dd⟩, _⟩ := I.tuple h.of0
    obtain ⟨as, q⟩ := dts_reads I hs (by simpa [PyData.canLay0] using c) rv
    exact ⟨as, reads_tuple_at e c' dd (by simpa using q)⟩
  | _, _, _, .lst h _ hs, c, r => by
    cases r
    obtain ⟨its, rv, ⟨o, n, e, c', _, dd⟩, _⟩ := I.list (.inl h)
    obtain ⟨as, q⟩ := dts_reads I hs (by simpa [PyData.canLay0] using c) rv
    exact ⟨_, reads_list_at e c' dd (by simpa using q)⟩
  | _, _, _, .pack _ _, c, _ => by simp [PyData.canLay0] at c
  | _, _, _, .dct0 _ _, c, _ => by simp [PyData.canLay0] at c
  | _, _, _, .dic _ _ _ _ _, c, _ => by simp [PyData.canLay0] at c
  | _, _, _, .scr _ _, c, _ => by simp [PyData.canLay0] at c
theorem dts_reads (I : Inv X pins σ H s) {O : Ex} : ∀ {vs : List V} {ds : List PyData} {us : List Value}, Dts X.K H O vs ds → PyData.canLayAll0 ds = true → Vals vs us → ∃ as, ReadsAll s.heap us ds as
  | _, _, _, .nil, _, r => by cases r; exact ⟨_, ReadsAll.nil⟩
  | _, _, _, .cons h hs, c, r => by
    rw [PyData.canLayAll0, Bool.and_eq_true] at c
    cases r with
    | cons r1 r2 =>
      obtain ⟨as, q⟩ := dt_reads I h c.1 r1
      obtain ⟨bs, p⟩ := dts_reads I hs c.2 r2
      exact ⟨_, ReadsAll.cons q p⟩
end
end
end L2

namespace L2
open PySem PySem.Spec PyProof.Rows PySem.W
inductive Sl where
  | v (d : PyData)
  | o (ds : List PyData)
  | k (kd : List (Key × PyData))
abbrev Dl := List (Option Sl)
/-- the pairs of a dict as data -/
inductive KDt (K : PySem.W.Frag) (H : Hp) (O : Ex) : List (Key × V) → List (Key × PyData) → Prop
  | nil : KDt K H O [] []
  | cons {k : Key} {v : V} {d : PyData} {r : List (Key × V)} {s : List (Key × PyData)} : Dt K H O v d → KDt K H O r s → KDt K H O ((k, v) :: r) ((k, d) :: s)
theorem KDt.step {K : PySem.W.Frag} {H H' : Hp} {O O' : Ex} (S : Step H H' O O') {r : List (Key × V)} {s : List (Key × PyData)} (h : KDt K H O r s) : KDt K H' O' r s := by
  induction h with
  | nil => exact .nil
  | cons a _ ih => exact .cons (a.step S) ih
theorem KDt.mono {K : PySem.W.Frag} {H H' : Hp} {O : Ex} (S : Same H H') {r : List (Key × V)} {s : List (Key × PyData)} (h : KDt K H O r s) : KDt K H' O r s := h.step (.same S)
/-- under way -/
def Sl.own : Sl → Prop
  | .v _ => False
  | _ => True
/-- a slot: data, or a list or dict under way -/
def SlotOk (K : PySem.W.Frag) (H : Hp) (O0 O : Ex) (x : Option V) : Option Sl → Prop
  | none => True
  | some (.v d) => ∃ v, x = some v ∧ Dt K H O v d
  | some (.o ds) => ∃ l vs, x = some (.ref l) ∧ O l ∧ ¬ O0 l ∧ H l = some (.lst vs) ∧ Dts K H O vs ds
  | some (.k kd) => ∃ l kv, x = some (.ref l) ∧ O l ∧ ¬ O0 l ∧ H l = some (.dK kv) ∧ KDt K H O kv kd
/-- the state of a def's body: the entry's heap H0 with the callers' lists under way O0; now H and O; the slots -/
structure Wd (K : PySem.W.Frag) (H0 : Hp) (O0 : Ex) (H : Hp) (O : Ex) (σ : St) (δ : Dl) : Prop where
  same : Same H0 H
  sub : ∀ l, O0 l → O l
  new : ∀ l, O l → O0 l ∨ H0 l = none
  trk : ∀ l, O l → H l ≠ none
  len : σ.length = δ.length
  sl : ∀ (i : Nat) y, δ[i]? = some y → SlotOk K H O0 O ((σ[i]?).join) y
  dis : ∀ (i j : Nat) y z l, δ[i]? = some (some y) → y.own → δ[j]? = some (some z) → z.own → σ[i]? = some (some (.ref l)) → σ[j]? = some (some (.ref l)) → i = j
section
variable {K : PySem.W.Frag} {H0 H H' : Hp} {O0 O : Ex} {σ : St} {δ : Dl}
theorem SlotOk.mono {x : Option V} {y : Option Sl} (s : Same H H') (h : SlotOk K H O0 O x y) : SlotOk K H' O0 O x y := by
  match y, h with
  | none, _ => exact True.intro
  | some (.v d), ⟨v, e, r⟩ => exact ⟨v, e, r.mono s⟩
  | some (.o ds), ⟨l, vs, e, a, b, c, r⟩ => exact ⟨l, vs, e, a, b, s _ _ c, r.mono s⟩
  | some (.k ds), ⟨l, vs, e, a, b, c, r⟩ => exact ⟨l, vs, e, a, b, s _ _ c, r.mono s⟩
/-- another O, another heap: what is under way stays -/
theorem SlotOk.go {O' : Ex} {x : Option V} {y : Option Sl} (h : SlotOk K H O0 O x y) (S : Step H H' O O') (kp : ∀ l o, y.any (fun z => match z with | .v _ => false | _ => true) = true → x = some (.ref l) → O l → ¬ O0 l → H l = some o → O' l ∧ H' l = some o) : SlotOk K H' O0 O' x y := by
  match y, h with
  | none, _ => exact True.intro
  | some (.v d), ⟨v, e, r⟩ => exact ⟨v, e, r.step S⟩
  | some (.o ds), ⟨l, vs, e, a, b, c, r⟩ => exact ⟨l, vs, e, (kp l _ rfl e a b c).1, b, (kp l _ rfl e a b c).2, r.step S⟩
  | some (.k ds), ⟨l, vs, e, a, b, c, r⟩ => exact ⟨l, vs, e, (kp l _ rfl e a b c).1, b, (kp l _ rfl e a b c).2, r.step S⟩
theorem Wd.mono (s : Same H H') (w : Wd K H0 O0 H O σ δ) : Wd K H0 O0 H' O σ δ :=
  ⟨w.same.trans s, w.sub, w.new, fun l h z => (by
    cases e : H l with
    | none => exact w.trk l h e
    | some o => rw [s _ _ e] at z; cases z), w.len, fun i y e => (w.sl i y e).mono s, w.dis⟩
theorem at_join {i : Nat} {v : V} (h : (σ[i]?).join = some v) : σ[i]? = some (some v) := by
  cases q : σ[i]? with
  | none => rw [q] at h; cases h
  | some o => rw [q] at h; rw [show o = some v from h]
theorem Wd.val (w : Wd K H0 O0 H O σ δ) {i : Nat} {d : PyData} (e : δ[i]? = some (some (.v d))) : ∃ v, σ[i]? = some (some v) ∧ Dt K H O v d := by
  obtain ⟨v, h, r⟩ := w.sl i _ e
  exact ⟨v, at_join h, r⟩
theorem Wd.own (w : Wd K H0 O0 H O σ δ) {i : Nat} {ds : List PyData} (e : δ[i]? = some (some (.o ds))) : ∃ l vs, σ[i]? = some (some (.ref l)) ∧ O l ∧ ¬ O0 l ∧ H l = some (.lst vs) ∧ Dts K H O vs ds := by
  obtain ⟨l, vs, h, r⟩ := w.sl i _ e
  exact ⟨l, vs, at_join h, r⟩
theorem Wd.ownK (w : Wd K H0 O0 H O σ δ) {i : Nat} {kd : List (Key × PyData)} (e : δ[i]? = some (some (.k kd))) : ∃ l kv, σ[i]? = some (some (.ref l)) ∧ O l ∧ ¬ O0 l ∧ H l = some (.dK kv) ∧ KDt K H O kv kd := by
  obtain ⟨l, vs, h, r⟩ := w.sl i _ e
  exact ⟨l, vs, at_join h, r⟩
/-- where what is under way lies -/
theorem Wd.adr (w : Wd K H0 O0 H O σ δ) {i : Nat} {y : Sl} (e : δ[i]? = some (some y)) (h : y.own) : ∃ l, σ[i]? = some (some (.ref l)) ∧ O l ∧ ¬ O0 l := by
  match y, h, e with
  | .o ds, _, e => obtain ⟨l, vs, a, b, c, _⟩ := w.own e; exact ⟨l, a, b, c⟩
  | .k ds, _, e => obtain ⟨l, vs, a, b, c, _⟩ := w.ownK e; exact ⟨l, a, b, c⟩
/-- a slot is set to data -/
theorem Wd.set (w : Wd K H0 O0 H O σ δ) {i : Nat} {v : V} {d : PyData} (h : Dt K H O v d) : Wd K H0 O0 H O (σ.set i (some v)) (δ.set i (some (.v d))) := by
  refine ⟨w.same, w.sub, w.new, w.trk, by simp [w.len], fun j y e => ?_, fun j k y z l e1 y1 e2 z2 e3 e4 => ?_⟩
  · by_cases hj : j = i
    · subst hj
      have hl : j < δ.length := by
        have := (List.getElem?_eq_some_iff.mp e).1; simpa using this
      rw [List.getElem?_set_self hl] at e
      cases e
      rw [List.getElem?_set_self (by rw [w.len]; exact hl)]
      exact ⟨v, rfl, h⟩
    · rw [List.getElem?_set_ne (Ne.symm hj)] at e ⊢
      exact w.sl j y e
  · have ne : ∀ {j : Nat} {y : Sl}, (δ.set i (some (.v d)))[j]? = some (some y) → y.own → j ≠ i := fun {j y} e ho z => by
      subst z
      by_cases hl : j < δ.length
      · rw [List.getElem?_set_self hl] at e; cases e; exact ho
      · rw [List.getElem?_eq_none (by simpa using hl)] at e; cases e
    have n1 := ne e1 y1; have n2 := ne e2 z2
    rw [List.getElem?_set_ne (Ne.symm n1)] at e1 e3
    rw [List.getElem?_set_ne (Ne.symm n2)] at e2 e4
    exact w.dis j k y z l e1 y1 e2 z2 e3 e4
/-- a slot is set to what is new and under way from here on -/
theorem Wd.setY (w : Wd K H0 O0 H O σ δ) {i : Nat} {p : Addr} {ho : HO} {y0 : Sl} (hy : y0.own) (hp : H p = none) (h : ∀ O', Step H (upd H p ho) O O' → O' p → ¬ O0 p → SlotOk K (upd H p ho) O0 O' (some (.ref p)) (some y0)) :
    Wd K H0 O0 (upd H p ho) (fun l => O l ∨ l = p) (σ.set i (some (.ref p))) (δ.set i (some y0)) := by
  have sm : Same H (upd H p ho) := Same.new hp
  have np : ∀ l, O l → l ≠ p := fun l hl z => w.trk l hl (by rw [z]; exact hp)
  have p0 : H0 p = none := by
    cases e : H0 p with
    | none => rfl
    | some o => rw [w.same _ _ e] at hp; cases hp
  have S : Step H (upd H p ho) O (fun l => O l ∨ l = p) := ⟨fun b o e _ => sm b o e, fun b hb hn z => z.elim hn fun q => hb (by rw [q]; exact hp)⟩
  have n0 : ¬ O0 p := fun z => np p (w.sub p z) rfl
  refine ⟨w.same.trans sm, fun l z => .inl (w.sub l z), fun l z => z.elim (w.new l) fun q => .inr (by rw [q]; exact p0), fun l z => ?_, by simp [w.len], fun j y e => ?_, fun j k y z l e1 y1 e2 z2 e3 e4 => ?_⟩
  · by_cases q : l = p
    · rw [q, upd_same]; exact fun z => nomatch z
    · rw [upd_ne q]; exact w.trk l (z.resolve_right q)
  · by_cases hj : j = i
    · subst hj
      have hl : j < δ.length := by
        have := (List.getElem?_eq_some_iff.mp e).1; simpa using this
      rw [List.getElem?_set_self hl] at e
      cases e
      rw [List.getElem?_set_self (by rw [w.len]; exact hl)]
      exact h _ S (.inr rfl) n0
    · rw [List.getElem?_set_ne (Ne.symm hj)] at e ⊢
      exact (w.sl j y e).go S fun l o _ _ a _ c => ⟨.inl a, sm _ _ c⟩
  · by_cases hj : j = i
    · by_cases hk : k = i
      · rw [hj, hk]
      · exfalso
        rw [hj] at e1 e3
        have hl : i < σ.length := by
          have := (List.getElem?_eq_some_iff.mp e3).1; simpa using this
        rw [List.getElem?_set_self hl] at e3
        cases e3
        rw [List.getElem?_set_ne (Ne.symm hk)] at e2 e4
        obtain ⟨l', x1, x2, _⟩ := w.adr e2 z2
        rw [e4] at x1; cases x1
        exact np _ x2 rfl
    · by_cases hk : k = i
      · exfalso
        rw [hk] at e2 e4
        have hl : i < σ.length := by
          have := (List.getElem?_eq_some_iff.mp e4).1; simpa using this
        rw [List.getElem?_set_self hl] at e4
        cases e4
        rw [List.getElem?_set_ne (Ne.symm hj)] at e1 e3
        obtain ⟨l', x1, x2, _⟩ := w.adr e1 y1
        rw [e3] at x1; cases x1
        exact np _ x2 rfl
      · rw [List.getElem?_set_ne (Ne.symm hj)] at e1 e3
        rw [List.getElem?_set_ne (Ne.symm hk)] at e2 e4
        exact w.dis j k _ _ l e1 y1 e2 z2 e3 e4
theorem Wd.setO (w : Wd K H0 O0 H O σ δ) {i : Nat} {p : Addr} {vs : List V} {ds : List PyData} (hp : H p = none) (h : Dts K H O vs ds) :
    Wd K H0 O0 (upd H p (.lst vs)) (fun l => O l ∨ l = p) (σ.set i (some (.ref p))) (δ.set i (some (.o ds))) :=
  w.setY trivial hp fun O' S a b => ⟨p, vs, rfl, a, b, upd_same, h.step S⟩
theorem Wd.setK (w : Wd K H0 O0 H O σ δ) {i : Nat} {p : Addr} {kv : List (Key × V)} {kd : List (Key × PyData)} (hp : H p = none) (h : KDt K H O kv kd) :
    Wd K H0 O0 (upd H p (.dK kv)) (fun l => O l ∨ l = p) (σ.set i (some (.ref p))) (δ.set i (some (.k kd))) :=
  w.setY trivial hp fun O' S a b => ⟨p, kv, rfl, a, b, upd_same, h.step S⟩
/-- what is under way is changed -/
theorem Wd.putY (w : Wd K H0 O0 H O σ δ) {i : Nat} {l : Addr} {ho : HO} {y0 y1 : Sl} (h0 : y0.own) (h1 : y1.own) (e : δ[i]? = some (some y0)) (hl : σ[i]? = some (some (.ref l))) (h : Step H (upd H l ho) O O → O l → ¬ O0 l → SlotOk K (upd H l ho) O0 O (some (.ref l)) (some y1)) :
    Wd K H0 O0 (upd H l ho) O σ (δ.set i (some y1)) := by
  obtain ⟨l', x1, x2, x3⟩ := w.adr e h0
  rw [hl] at x1; cases x1
  have l0 : H0 l = none := (w.new l x2).resolve_left x3
  have S : Step H (upd H l ho) O O := ⟨fun b o q n => by rw [upd_ne (fun z => n (by rw [z]; exact x2))]; exact q, fun _ _ n => n⟩
  have li : i < δ.length := (List.getElem?_eq_some_iff.mp e).1
  refine ⟨fun b o q => by rw [upd_ne (fun z => by rw [z, l0] at q; cases q)]; exact w.same b o q, w.sub, w.new, fun b z => ?_, by simp [w.len], fun j y q => ?_, fun j k y z b e1 y1' e2 z2 e3 e4 => ?_⟩
  · by_cases q : b = l
    · rw [q, upd_same]; exact fun z => nomatch z
    · rw [upd_ne q]; exact w.trk b z
  · by_cases hj : j = i
    · subst hj
      rw [List.getElem?_set_self li] at q
      cases q
      rw [hl]
      exact h S x2 x3
    · rw [List.getElem?_set_ne (Ne.symm hj)] at q
      refine (w.sl j y q).go S fun b o ho' e' a1 a2 a3 => ⟨a1, ?_⟩
      have nb : b ≠ l := fun z => by
        subst z
        match y, ho', q with
        | some z, ho', q => exact hj (w.dis j i z y0 b q (by cases z <;> first | trivial | cases ho') e h0 (at_join e') hl)
      rw [upd_ne nb]; exact a3
  · have back : ∀ {j : Nat} {y : Sl}, (δ.set i (some y1))[j]? = some (some y) → y.own → ∃ y', δ[j]? = some (some y') ∧ y'.own := fun {j y} q hq => by
      by_cases hj : j = i
      · subst hj; exact ⟨_, e, h0⟩
      · rw [List.getElem?_set_ne (Ne.symm hj)] at q; exact ⟨_, q, hq⟩
    obtain ⟨_, q1, r1⟩ := back e1 y1'
    obtain ⟨_, q2, r2⟩ := back e2 z2
    exact w.dis j k _ _ b q1 r1 q2 r2 e3 e4
theorem Wd.putO (w : Wd K H0 O0 H O σ δ) {i : Nat} {l : Addr} {vs us : List V} {ds es : List PyData} (e : δ[i]? = some (some (.o ds))) (hl : σ[i]? = some (some (.ref l))) (h : Dts K H O us es) :
    Wd K H0 O0 (upd H l (.lst us)) O σ (δ.set i (some (.o es))) :=
  w.putY (y0 := .o ds) (y1 := .o es) trivial trivial e hl fun S a b => ⟨l, us, rfl, a, b, upd_same, h.step S⟩
theorem Wd.putK (w : Wd K H0 O0 H O σ δ) {i : Nat} {l : Addr} {kv : List (Key × V)} {kd kd' : List (Key × PyData)} (e : δ[i]? = some (some (.k kd))) (hl : σ[i]? = some (some (.ref l))) (h : KDt K H O kv kd') :
    Wd K H0 O0 (upd H l (.dK kv)) O σ (δ.set i (some (.k kd'))) :=
  w.putY (y0 := .k kd) (y1 := .k kd') trivial trivial e hl fun S a b => ⟨l, kv, rfl, a, b, upd_same, h.step S⟩
end
/-! ### readings over data -/
abbrev DT := Dl → (PyData → Prop) → Prop
abbrev DA := Dl → (List PyData → Prop) → Prop
abbrev DB := Dl → (Bool → Prop) → Prop
structure DEnds where
  nx : Dl → Prop
  rt : PyData → Prop
  bk : Dl → Prop := fun _ => False
  ct : Dl → Prop := fun _ => False
abbrev DS := DEnds → Dl → Prop
section
variable (K : PySem.W.Frag) (H0 : Hp) (O0 : Ex)
def up (t : DT) : TE := fun σ H R => ∃ O δ Qd, Wd K H0 O0 H O σ δ ∧ t δ Qd ∧ ∀ d v H', Qd d → Same H H' → Dt K H' O v d → R v H'
def upS (t : DT) : TE := fun σ H R => ∃ O δ Qd, Wd K H0 O0 H O σ δ ∧ t δ Qd ∧ ∀ d v H', Qd d → Same H H' → Sh K H' O v d → R v H'
def upA (t : DA) : TA := fun σ H R => ∃ O δ Qd, Wd K H0 O0 H O σ δ ∧ t δ Qd ∧ ∀ ds vs H', Qd ds → Same H H' → Dts K H' O vs ds → R vs H'
def upT (t : DB) : TT := fun σ H R => ∃ O δ Qd, Wd K H0 O0 H O σ δ ∧ t δ Qd ∧ ∀ b H', Qd b → Same H H' → R b H'
def upD (t : DS) : TS := fun D σ H => ∃ O δ E, Wd K H0 O0 H O σ δ ∧ t E δ ∧ (∀ O' δ' σ' H', E.nx δ' → Wd K H0 O0 H' O' σ' δ' → Step H H' O O' → D.nx σ' H') ∧ (∀ d v H', E.rt d → Same H0 H' → Dt K H' O0 v d → D.rt v H') ∧
  (∀ O' δ' σ' H', E.bk δ' → Wd K H0 O0 H' O' σ' δ' → Step H H' O O' → D.bk σ' H') ∧ (∀ O' δ' σ' H', E.ct δ' → Wd K H0 O0 H' O' σ' δ' → Step H H' O O' → D.ct σ' H')
end
theorem PE.imp {X : Cx} {e : Expr} {t u : TE} (h : PE X e t) (i : ∀ σ H Q, u σ H Q → t σ H Q) : PE X e u := fun pins s σ H Q I z => h pins s σ H Q I (i σ H Q z)
theorem PT.imp {X : Cx} {e : Expr} {t u : TT} (h : PT X e t) (i : ∀ σ H Q, u σ H Q → t σ H Q) : PT X e u := fun pins s σ H Q I z => h pins s σ H Q I (i σ H Q z)
theorem PW.imp {X : Cx} {e : Expr} {t u : TT} (h : PW X e t) (i : ∀ σ H Q, u σ H Q → t σ H Q) : PW X e u := fun wh pins s σ H Q I z => h wh pins s σ H Q I (i σ H Q z)
theorem PA.imp {X : Cx} {e : List Expr} {t u : TA} (h : PA X e t) (i : ∀ σ H Q, u σ H Q → t σ H Q) : PA X e u := fun pos pins s σ H Q I z => h pos pins s σ H Q I (i σ H Q z)
theorem PS.imp {X : Cx} {e : Stmt} {t u : TS} (h : PS X e t) (i : ∀ D σ H, u D σ H → t D σ H) : PS X e u := fun pins s σ H D I z => h pins s σ H D I (i D σ H z)
theorem PSs.imp {X : Cx} {e : List Stmt} {t u : TS} (h : PSs X e t) (i : ∀ D σ H, u D σ H → t D σ H) : PSs X e u := fun pins s σ H D I z => h pins s σ H D I (i D σ H z)
section
variable {X : Cx} {H0 : Hp} {O0 : Ex}
abbrev DE (X : Cx) (H0 : Hp) (O0 : Ex) (e : Expr) (t : DT) : Prop := PE X e (up X.K H0 O0 t)
abbrev DF (X : Cx) (H0 : Hp) (O0 : Ex) (e : Expr) (t : DT) : Prop := PE X e (upS X.K H0 O0 t)
theorem df {e : Expr} {t : DT} (h : DE X H0 O0 e t) : DF X H0 O0 e t := h.imp fun σ H Q ⟨O, δ, Qd, w, q, k⟩ => ⟨O, δ, Qd, w, q, fun d v H' a b c => k d v H' a b (.dt c)⟩
/-! names, constants -/
def dVar (i : Nat) : DT := fun δ Q => ∃ d, δ[i]? = some (some (.v d)) ∧ Q d
def dOwn (i : Nat) : DT := fun δ Q => ∃ ds, δ[i]? = some (some (.o ds)) ∧ Q (.list ds)
def dC (d : PyData) : DT := fun _ Q => Q d
theorem dv (i : Nat) {x : Str} {pos : Pos} (hN : X.N[i]? = some x := by rfl) (hv : Vis X.env.scope x := by first | exact Or.inl rfl | exact Or.inr (Or.inl rfl) | exact Or.inr (Or.inr rfl))
    (hd : (x == ("__debug__" : Str)) = false := by decide) (hcd : (x == ("__classdict__" : Str)) = false := by decide) : DE X H0 O0 (.Name x pos) (dVar i) :=
  (pe_var hN hv hd hcd).imp fun σ H Q ⟨O, δ, Qd, w, ⟨d, e, q⟩, k⟩ => by
    obtain ⟨v, h, r⟩ := w.val e
    exact ⟨v, h, k d v H q (Same.refl _) r⟩
theorem dw (i : Nat) {x : Str} {pos : Pos} (hN : X.N[i]? = some x := by rfl) (hv : Vis X.env.scope x := by first | exact Or.inl rfl | exact Or.inr (Or.inl rfl) | exact Or.inr (Or.inr rfl))
    (hd : (x == ("__debug__" : Str)) = false := by decide) (hcd : (x == ("__classdict__" : Str)) = false := by decide) : DF X H0 O0 (.Name x pos) (dOwn i) :=
  (pe_var hN hv hd hcd).imp fun σ H Q ⟨O, δ, Qd, w, ⟨ds, e, q⟩, k⟩ => by
    obtain ⟨l, vs, h, _, _, r, rs⟩ := w.own e
    exact ⟨_, h, k _ _ H q (Same.refl _) (.own r rs)⟩
theorem dc {e : Expr} {v : V} {d : PyData} (h : PE X e (tC v)) (r : ∀ H O, Dt X.K H O v d) : DE X H0 O0 e (dC d) := h.imp fun σ H Q ⟨O, δ, Qd, w, q, k⟩ => k d v H q (Same.refl _) (r H O)
theorem de_int {i j pos} : DE X H0 O0 (.Constant (.int i) j pos) (dC (.int i)) := dc pe_int fun _ _ => .int i
theorem de_bl {b j pos} : DE X H0 O0 (.Constant (.bool b) j pos) (dC (.bool b)) := dc pe_bl fun _ _ => .bl b
theorem de_str {x j pos} : DE X H0 O0 (.Constant (.str x) j pos) (dC (.str x)) := dc pe_str fun _ _ => .str x
/-! argument lists, displays -/
def dNil : DA := fun _ Q => Q []
def dCons (t : DT) (u : DA) : DA := fun δ Q => t δ fun d => u δ fun ds => Q (d :: ds)
theorem da_nil : PA X [] (upA X.K H0 O0 dNil) := pa_nil.imp fun σ H Q ⟨O, δ, Qd, w, q, k⟩ => k [] [] H q (Same.refl _) .nil
theorem da_cons {e : Expr} {es : List Expr} {t : DT} {u : DA} (h : DE X H0 O0 e t) (hs : PA X es (upA X.K H0 O0 u)) (he : starEach (e :: es) X.env = (false, eval e X.env) :: starEach es X.env := by rfl) : PA X (e :: es) (upA X.K H0 O0 (dCons t u)) :=
  (pa_cons h hs he).imp fun σ H Q ⟨O, δ, Qd, w, q, k⟩ => ⟨O, δ, _, w, q, fun d v H1 q1 s1 r1 => ⟨O, δ, _, w.mono s1, q1, fun ds vs H2 q2 s2 r2 => k (d :: ds) (v :: vs) H2 q2 (s1.trans s2) (.cons (r1.mono s2) r2)⟩⟩
def dTup (t : DA) : DT := fun δ Q => t δ fun ds => ds.length ≤ sizeLine ∧ Q (.tuple ds)
def dLst (t : DA) : DT := fun δ Q => t δ fun ds => ds.length ≤ sizeLine ∧ Q (.list ds)
theorem nex {H : Hp} {O : Ex} {σ : St} {δ : Dl} {H1 : Hp} {p : Addr} {K : PySem.W.Frag} (w : Wd K H0 O0 H O σ δ) (s : Same H H1) (hp : H1 p = none) : ¬ O p := fun z => (w.mono s).trk p z hp
theorem de_tup {es : List Expr} {t : DA} {x1} {pos : Pos} (h : PA X es (upA X.K H0 O0 t)) : DE X H0 O0 (.Tuple es x1 pos) (dTup t) :=
  (pe_tup h).imp fun σ H Q ⟨O, δ, Qd, w, q, k⟩ => ⟨O, δ, _, w, q, fun ds vs H1 q1 s1 r1 => ⟨by rw [r1.length]; exact q1.1, fun p hp => k _ _ _ q1.2 (s1.trans (Same.new hp)) (.tup (.inl upd_same) (nex w s1 hp) (r1.mono (Same.new hp)))⟩⟩
end
end L2

namespace L2
open PySem PySem.Spec PyProof.Rows PySem.W
theorem Step.refl (H : Hp) (O : Ex) : Step H H O O := ⟨fun _ _ e _ => e, fun _ _ n => n⟩
theorem Step.trans {H H1 H2 : Hp} {O O1 O2 : Ex} (a : Step H H1 O O1) (b : Step H1 H2 O1 O2) : Step H H2 O O2 := by
  refine ⟨fun c o e n => ?_, fun c e n => ?_⟩
  · have h1 := a.keep c o e n
    exact b.keep c o h1 (a.out c (by rw [e]; exact fun z => nomatch z) n)
  · cases q : H c with
    | none => exact absurd q e
    | some o => exact b.out c (by rw [a.keep c o q n]; exact fun z => nomatch z) (a.out c e n)
section
variable {X : Cx} {H0 : Hp} {O0 : Ex}
/-! ### two-place operations -/
def OpD (K : PySem.W.Frag) (r : R2) (rd : PyData → PyData → (PyData → Prop) → Prop) : Prop :=
  ∀ (H : Hp) (O : Ex) (x y : V) (dx dy : PyData) (Qd : PyData → Prop) (R : VK), (∀ l, O l → H l ≠ none) → Sh K H O x dx → Sh K H O y dy → rd dx dy Qd → (∀ d v H', Qd d → Same H H' → Dt K H' O v d → R v H') → r x y H R
def dOp (rd : PyData → PyData → (PyData → Prop) → Prop) (ta tb : DT) : DT := fun δ Q => ta δ fun x => tb δ fun y => rd x y Q
theorem opd {K : PySem.W.Frag} {r : R2} {rd : PyData → PyData → (PyData → Prop) → Prop} {ta tb : DT} (hd : OpD K r rd) : ∀ σ H Q, up K H0 O0 (dOp rd ta tb) σ H Q → tOp r (upS K H0 O0 ta) (upS K H0 O0 tb) σ H Q :=
  fun σ H Q ⟨O, δ, Qd, w, q, k⟩ => ⟨O, δ, _, w, q, fun x v H1 q1 s1 r1 => ⟨O, δ, _, w.mono s1, q1, fun y u H2 q2 s2 r2 => hd H2 O v u x y Qd _ (w.mono (s1.trans s2)).trk (r1.mono s2) r2 q2 fun d z H3 qd s3 r3 => k d z H3 qd (s1.trans (s2.trans s3)) r3⟩⟩
theorem de_op {a b : Expr} {ta tb : DT} {op : Operator} {r : R2} {rd : PyData → PyData → (PyData → Prop) → Prop} {pos : Pos} (ho : OpR X (binaryOp op) r) (hd : OpD X.K r rd) (ha : DF X H0 O0 a ta) (hb : DF X H0 O0 b tb) : DE X H0 O0 (.BinOp a op b pos) (dOp rd ta tb) := (pe_op ho ha hb).imp (opd hd)
theorem de_cmp {a b : Expr} {ta tb : DT} {op : CmpOp} {r : R2} {rd : PyData → PyData → (PyData → Prop) → Prop} {pos : Pos} (ho : OpR X (compareOp op) r) (hd : OpD X.K r rd) (ha : DF X H0 O0 a ta) (hb : DF X H0 O0 b tb) (hm : behindInMarks op b = false) : DE X H0 O0 (.Compare a [op] [b] pos) (dOp rd ta tb) := (pe_cmpR ho ha hb hm).imp (opd hd)
def dTest (t : DT) : DB := fun δ Q => t δ fun d => ∃ b, d = .bool b ∧ Q b
theorem dt_cmp {a b : Expr} {ta tb : DT} {op : CmpOp} {r : R2} {rd : PyData → PyData → (PyData → Prop) → Prop} {pos : Pos} (ho : OpR X (compareOp op) r) (hd : OpD X.K r rd) (ha : DF X H0 O0 a ta) (hb : DF X H0 O0 b tb) (hm : behindInMarks op b = false) : PT X (.Compare a [op] [b] pos) (upT X.K H0 O0 (dTest (dOp rd ta tb))) :=
  (pt_cmpR ho ha hb hm).imp fun σ H Q ⟨O, δ, Qd, w, q, k⟩ => opd hd σ H _ ⟨O, δ, _, w, q, fun d v H' ⟨b, e, qb⟩ s r => by subst e; cases r; exact ⟨b, rfl, k b H' qb s⟩⟩
theorem dt_val {e : Expr} {t : DT} (h : DE X H0 O0 e t) (he : ∀ whole, isTrue e X.env whole = (do let v ← whole; standAt e.pos; holding [v] (truthy v)) := by intro _; rfl) : PT X e (upT X.K H0 O0 (dTest t)) :=
  (pt_val h he).imp fun σ H Q ⟨O, δ, Qd, w, q, k⟩ => ⟨O, δ, _, w, q, fun d v H' ⟨b, e, qb⟩ s r => by subst e; cases r; exact ⟨b, rfl, k b H' qb s⟩⟩
def dAnd (t u : DB) : DB := fun δ Q => t δ fun c => if c = true then u δ Q else Q false
def dOr (t u : DB) : DB := fun δ Q => t δ fun c => if c = true then Q true else u δ Q
def dNot (t : DB) : DB := fun δ Q => t δ fun c => Q (!c)
theorem dw_and1 {a : Expr} {t : DB} {pos : Pos} (h : PT X a (upT X.K H0 O0 t)) : PW X (.BoolOp .And [a] pos) (upT X.K H0 O0 t) := pw_and1 h
theorem dw_or1 {a : Expr} {t : DB} {pos : Pos} (h : PT X a (upT X.K H0 O0 t)) : PW X (.BoolOp .Or [a] pos) (upT X.K H0 O0 t) := pw_or1 h
theorem dw_and {a b : Expr} {rest : List Expr} {t u : DB} {pos : Pos} (h : PT X a (upT X.K H0 O0 t)) (hb : PW X (.BoolOp .And (b :: rest) pos) (upT X.K H0 O0 u)) : PW X (.BoolOp .And (a :: b :: rest) pos) (upT X.K H0 O0 (dAnd t u)) :=
  (pw_and h hb).imp fun σ H Q ⟨O, δ, Qd, w, q, k⟩ => ⟨O, δ, _, w, q, fun c H1 q1 s1 => by
    cases c with
    | true => exact ⟨O, δ, _, w.mono s1, q1, fun b H2 q2 s2 => k b H2 q2 (s1.trans s2)⟩
    | false => exact k false H1 q1 s1⟩
theorem dw_or {a b : Expr} {rest : List Expr} {t u : DB} {pos : Pos} (h : PT X a (upT X.K H0 O0 t)) (hb : PW X (.BoolOp .Or (b :: rest) pos) (upT X.K H0 O0 u)) : PW X (.BoolOp .Or (a :: b :: rest) pos) (upT X.K H0 O0 (dOr t u)) :=
  (pw_or h hb).imp fun σ H Q ⟨O, δ, Qd, w, q, k⟩ => ⟨O, δ, _, w, q, fun c H1 q1 s1 => by
    cases c with
    | false => exact ⟨O, δ, _, w.mono s1, q1, fun b H2 q2 s2 => k b H2 q2 (s1.trans s2)⟩
    | true => exact k true H1 q1 s1⟩
theorem dt_not {a : Expr} {t : DB} {pos : Pos} (h : PT X a (upT X.K H0 O0 t)) : PT X (.UnaryOp .Not a pos) (upT X.K H0 O0 (dNot t)) :=
  (pt_not h).imp fun σ H Q ⟨O, δ, Qd, w, q, k⟩ => ⟨O, δ, _, w, q, fun c H1 q1 s1 => k (!c) H1 q1 s1⟩
/-! and, or, not as values -/
def dAndV (t u : DT) : DT := fun δ Q => t δ fun d => ∃ c, d = .bool c ∧ if c = true then u δ Q else Q (.bool false)
def dOrV (t u : DT) : DT := fun δ Q => t δ fun d => ∃ c, d = .bool c ∧ if c = true then Q (.bool true) else u δ Q
def dNotV (t : DT) : DT := fun δ Q => t δ fun d => ∃ c, d = .bool c ∧ Q (.bool (!c))
def dIf (c : DB) (t u : DT) : DT := fun δ Q => c δ fun b => if b = true then t δ Q else u δ Q
/-- a chain of two comparisons -/
def dChain (rd rd' : PyData → PyData → (PyData → Prop) → Prop) (ta tb tc : DT) : DT := fun δ Q => ta δ fun x => tb δ fun y => rd x y fun z => ∃ k, z = .bool k ∧ if k = true then tc δ fun u => rd' y u Q else Q (.bool false)
/-! ### calls -/
def spD (K : PySem.W.Frag) (F : List PyData → (PyData → Prop) → Prop) : Sp := fun vs H Q _ => ∃ O ds Qd, (∀ l, O l → H l ≠ none) ∧ Dts K H O vs ds ∧ F ds Qd ∧ ∀ d v H', Qd d → Same H H' → Dt K H' O v d → Q v H'
def dCall (F : List PyData → (PyData → Prop) → Prop) (t : DA) : DT := fun δ Q => t δ fun ds => F ds Q
theorem dcall {K : PySem.W.Frag} {F : List PyData → (PyData → Prop) → Prop} {t : DA} {E : XK} : ∀ σ H Q, up K H0 O0 (dCall F t) σ H Q → tCall (spD K F) [] E (upA K H0 O0 t) σ H Q :=
  fun σ H Q ⟨O, δ, Qd, w, q, k⟩ => ⟨O, δ, _, w, q, fun ds vs H1 q1 s1 r1 => ⟨O, ds, Qd, (w.mono s1).trk, by rw [List.append_nil]; exact r1, q1, fun d v H2 q2 s2 r2 => k d v H2 q2 (s1.trans s2) r2⟩⟩
/-- arguments that may be lists under way -/
inductive Shs (K : PySem.W.Frag) (H : Hp) (O : Ex) : List V → List PyData → Prop
  | nil : Shs K H O [] []
  | cons {v : V} {d : PyData} {vs : List V} {ds : List PyData} : Sh K H O v d → Shs K H O vs ds → Shs K H O (v :: vs) (d :: ds)
theorem Shs.mono {K : PySem.W.Frag} {H H' : Hp} {O : Ex} (s : Same H H') : ∀ {vs : List V} {ds : List PyData}, Shs K H O vs ds → Shs K H' O vs ds
  | _, _, .nil => .nil
  | _, _, .cons h r => .cons (h.mono s) (Shs.mono s r)
theorem Shs.all {K : PySem.W.Frag} {H : Hp} {O : Ex} : ∀ {vs : List V} {ds : List PyData}, Shs K H O vs ds → Dts K H (fun _ => False) vs ds
  | _, _, .nil => .nil
  | _, _, .cons h r => .cons h.all r.all
def upB (K : PySem.W.Frag) (H0 : Hp) (O0 : Ex) (t : DA) : TA := fun σ H R => ∃ O δ Qd, Wd K H0 O0 H O σ δ ∧ t δ Qd ∧ ∀ ds vs H', Qd ds → Same H H' → Shs K H' O vs ds → R vs H'
theorem db_nil : PA X [] (upB X.K H0 O0 dNil) := pa_nil.imp fun σ H Q ⟨O, δ, Qd, w, q, k⟩ => k [] [] H q (Same.refl _) .nil
theorem db_cons {e : Expr} {es : List Expr} {t : DT} {u : DA} (h : DF X H0 O0 e t) (hs : PA X es (upB X.K H0 O0 u)) (he : starEach (e :: es) X.env = (false, eval e X.env) :: starEach es X.env := by rfl) : PA X (e :: es) (upB X.K H0 O0 (dCons t u)) :=
  (pa_cons h hs he).imp fun σ H Q ⟨O, δ, Qd, w, q, k⟩ => ⟨O, δ, _, w, q, fun d v H1 q1 s1 r1 => ⟨O, δ, _, w.mono s1, q1, fun ds vs H2 q2 s2 r2 => k (d :: ds) (v :: vs) H2 q2 (s1.trans s2) (.cons (r1.mono s2) r2)⟩⟩
def dCallS (F : List PyData → (PyData → Prop) → Prop) (t : DA) : DT := fun δ Q => t δ fun ds => F ds fun d => scalD d = true ∧ Q d
def CallD (K : PySem.W.Frag) (r : List V → Hp → VK → Prop) (rd : List PyData → (PyData → Prop) → Prop) : Prop :=
  ∀ (H : Hp) (O : Ex) (xs : List V) (ds : List PyData) (Qd : PyData → Prop) (R : VK), (∀ l, O l → H l ≠ none) → Shs K H O xs ds → rd ds Qd → (∀ d v H', Qd d → Same H H' → Dt K H' O v d → R v H') → r xs H R
theorem dcb {K : PySem.W.Frag} {r : List V → Hp → VK → Prop} {rd : List PyData → (PyData → Prop) → Prop} {t : DA} (hd : CallD K r rd) : ∀ σ H Q, up K H0 O0 (dCall rd t) σ H Q → tCB r (upB K H0 O0 t) σ H Q :=
  fun σ H Q ⟨O, δ, Qd, w, q, k⟩ => ⟨O, δ, _, w, q, fun ds vs H1 q1 s1 r1 => hd H1 O vs ds Qd _ (w.mono s1).trk r1 q1 fun d v H2 q2 s2 r2 => k d v H2 q2 (s1.trans s2) r2⟩
/-! ### statements -/
def dSeq (t u : DS) : DS := fun E δ => t { E with nx := u E } δ
theorem dss_cons {st : Stmt} {rest : List Stmt} {t u : DS} (h : PS X st (upD X.K H0 O0 t)) (h2 : PSs X rest (upD X.K H0 O0 u)) : PSs X (st :: rest) (upD X.K H0 O0 (dSeq t u)) :=
  (pss_cons h h2).imp fun D σ H ⟨O, δ, E, w, q, k1, k2, k3, k4⟩ => ⟨O, δ, _, w, q, fun O' δ' σ' H' z w' S => ⟨O', δ', E, w', z, fun O2 δ2 σ2 H2 z2 w2 S2 => k1 O2 δ2 σ2 H2 z2 w2 (S.trans S2), k2, fun O2 δ2 σ2 H2 z2 w2 S2 => k3 O2 δ2 σ2 H2 z2 w2 (S.trans S2), fun O2 δ2 σ2 H2 z2 w2 S2 => k4 O2 δ2 σ2 H2 z2 w2 (S.trans S2)⟩, k2, k3, k4⟩
def dNext : DS := fun E δ => E.nx δ
theorem dss_nil : PSs X [] (upD X.K H0 O0 dNext) := pss_nil.imp fun D σ H ⟨O, δ, E, w, q, k1, k2, k3, k4⟩ => k1 O δ σ H q w (Step.refl _ _)
theorem dss_one {st : Stmt} {t : DS} (h : PS X st (upD X.K H0 O0 t)) : PSs X [st] (upD X.K H0 O0 t) := pss_one h
def dSet (i : Nat) (t : DT) : DS := fun E δ => t δ fun d => E.nx (δ.set i (some (.v d)))
theorem ds_set {i : Nat} {x : Str} {e : Expr} {t : DT} {pos pos' : Pos} (hN : X.N.Nodup) (hi : X.N[i]? = some x) (hx : Loc X.env.scope x) (he : DE X H0 O0 e t) (hs : swapsWith e (some (.Name x pos')) pos.line X.env = pure false := by rfl) (hf : X.fn x = true ∨ X.env.scope.names.lookup x = some .local := by first | exact .inl rfl | exact .inr rfl | assumption) :
    PS X (.Assign [.Name x pos'] e pos) (upD X.K H0 O0 (dSet i t)) :=
  (ps_set hN hi hx he hs hf).imp fun D σ H ⟨O, δ, E, w, q, k1, k2, k3, k4⟩ => ⟨O, δ, _, w, q, fun d v H1 q1 s1 r1 => k1 O _ _ H1 q1 ((w.mono s1).set r1) (.same s1)⟩
def dRet (t : DT) : DS := fun E δ => t δ E.rt
theorem back {K : PySem.W.Frag} {H : Hp} {O : Ex} {σ : St} {δ : Dl} (w : Wd K H0 O0 H O σ δ) : Step H H O O0 := ⟨fun _ _ e _ => e, fun b _ n z => n (w.sub b z)⟩
theorem ds_ret {e : Expr} {t : DT} {pos : Pos} (he : DE X H0 O0 e t) : PS X (.Return (some e) pos) (upD X.K H0 O0 (dRet t)) :=
  (ps_ret he).imp fun D σ H ⟨O, δ, E, w, q, k1, k2, k3, k4⟩ => ⟨O, δ, _, w, q, fun d v H1 q1 s1 r1 => k2 d v H1 q1 (w.same.trans s1) (r1.step (back (w.mono s1)))⟩
def dRetO (i : Nat) : DS := fun E δ => ∃ ds, δ[i]? = some (some (.o ds)) ∧ E.rt (.list ds)
theorem ds_retO {e : Expr} {i : Nat} {pos : Pos} (he : PE X e (tVar i)) : PS X (.Return (some e) pos) (upD X.K H0 O0 (dRetO i)) :=
  (ps_ret he).imp fun D σ H ⟨O, δ, E, w, ⟨ds, e, q⟩, k1, k2, k3, k4⟩ => by
    obtain ⟨l, vs, h, a, b, c, r⟩ := w.own e
    exact ⟨_, h, k2 _ _ H q w.same (.lst (.inl c) b (r.step (back w)))⟩
def dIfS (c : DB) (t u : DS) : DS := fun E δ => c δ fun b => if b = true then t E δ else u E δ
theorem ds_if {c : Expr} {a b : List Stmt} {tc : DB} {t u : DS} {pos : Pos} (hc : PT X c (upT X.K H0 O0 tc)) (ha : PSs X a (upD X.K H0 O0 t)) (hb : PSs X b (upD X.K H0 O0 u)) : PS X (.If c a b pos) (upD X.K H0 O0 (dIfS tc t u)) :=
  (ps_if hc ha hb).imp fun D σ H ⟨O, δ, E, w, q, k1, k2, k3, k4⟩ => ⟨O, δ, _, w, q, fun c H1 q1 s1 => by
    have g : ∀ {t' : DS}, t' E δ → upD X.K H0 O0 t' D σ H1 := fun z => ⟨O, δ, E, w.mono s1, z, fun O2 δ2 σ2 H2 z2 w2 S2 => k1 O2 δ2 σ2 H2 z2 w2 (Step.trans (.same s1) S2), k2, fun O2 δ2 σ2 H2 z2 w2 S2 => k3 O2 δ2 σ2 H2 z2 w2 (Step.trans (.same s1) S2), fun O2 δ2 σ2 H2 z2 w2 S2 => k4 O2 δ2 σ2 H2 z2 w2 (Step.trans (.same s1) S2)⟩
    cases c with
    | true => exact g q1
    | false => exact g q1⟩
def dDrop (t : DT) : DS := fun E δ => t δ fun _ => E.nx δ
theorem ds_expr {e : Expr} {t : DT} {pos : Pos} (he : DE X H0 O0 e t) (hs : swapsWith e none pos.line X.env = pure false := by rfl) : PS X (.Expr e pos) (upD X.K H0 O0 (dDrop t)) :=
  (ps_expr he hs).imp fun D σ H ⟨O, δ, E, w, q, k1, k2, k3, k4⟩ => ⟨O, δ, _, w, q, fun d v H1 q1 s1 r1 => k1 O δ σ H1 q1 (w.mono s1) (.same s1)⟩
/-! lists under way -/
def upF (K : PySem.W.Frag) (H0 : Hp) (O0 : Ex) (t : DA) : TE := fun σ H R => ∃ O δ Qd, Wd K H0 O0 H O σ δ ∧ t δ Qd ∧ ∀ ds vs p H', Qd ds → Same H H' → H' p = none → Dts K H' O vs ds → R (.ref p) (upd H' p (.lst vs))
abbrev FE (X : Cx) (H0 : Hp) (O0 : Ex) (e : Expr) (t : DA) : Prop := PE X e (upF X.K H0 O0 t)
def dL (t : DA) : DT := fun δ Q => t δ fun ds => Q (.list ds)
theorem fe {e : Expr} {t : DA} (h : FE X H0 O0 e t) : DE X H0 O0 e (dL t) :=
  h.imp fun σ H Q ⟨O, δ, Qd, w, q, k⟩ => ⟨O, δ, _, w, q, fun ds vs p H1 q1 s1 hp r1 => k _ _ _ q1 (s1.trans (Same.new hp)) (.lst (.inl upd_same) (nex w s1 hp) (r1.mono (Same.new hp)))⟩
def dFin (t : DA) : DA := fun δ Q => t δ fun ds => ds.length ≤ sizeLine ∧ Q ds
theorem fe_lst {es : List Expr} {t : DA} {pos : Pos} (h : PA X es (upA X.K H0 O0 t)) : FE X H0 O0 (.List es pos) (dFin t) :=
  (pe_lst h).imp fun σ H Q ⟨O, δ, Qd, w, q, k⟩ => ⟨O, δ, _, w, q, fun ds vs H1 q1 s1 r1 => ⟨by rw [r1.length]; exact q1.1, fun p hp => k _ _ _ _ q1.2 s1 hp r1⟩⟩
def dNew (i : Nat) (t : DA) : DS := fun E δ => t δ fun ds => E.nx (δ.set i (some (.o ds)))
theorem ds_new {i : Nat} {x : Str} {e : Expr} {t : DA} {pos pos' : Pos} (hN : X.N.Nodup) (hi : X.N[i]? = some x) (hx : Loc X.env.scope x) (he : FE X H0 O0 e t) (hs : swapsWith e (some (.Name x pos')) pos.line X.env = pure false := by rfl) (hf : X.fn x = true ∨ X.env.scope.names.lookup x = some .local := by first | exact .inl rfl | exact .inr rfl | assumption) :
    PS X (.Assign [.Name x pos'] e pos) (upD X.K H0 O0 (dNew i t)) :=
  (ps_set hN hi hx he hs hf).imp fun D σ H ⟨O, δ, E, w, q, k1, k2, k3, k4⟩ => ⟨O, δ, _, w, q, fun ds vs p H1 q1 s1 hp r1 => k1 _ _ _ _ q1 ((w.mono s1).setO hp r1)
    ⟨fun b o e _ => (s1.trans (Same.new hp)) b o e, fun b e n z => z.elim n fun y => by
      cases q : H b with
      | none => exact e q
      | some o => have := s1 _ _ q; rw [y, hp] at this; cases this⟩⟩
def dApp (i : Nat) (t : DT) : DS := fun E δ => ∃ ds, δ[i]? = some (some (.o ds)) ∧ t δ fun d => ds.length < sizeLine ∧ E.nx (δ.set i (some (.o (ds ++ [d]))))
theorem ds_app {i : Nat} {o e : Expr} {t : DT} {apos cpos pos : Pos} (ho : PE X o (tVar i)) (he : DE X H0 O0 e t) (hbase : attributeBase o "append" X.env (eval o X.env) = eval o X.env := by rfl)
    (hfew : ((backTo cpos (starEach [e] X.env)).all (fun x => !x.1) && (backToKw cpos (keywordEach [] X.env)).all (fun x => x.1.isSome) && decide ([e].length + ([] : List Keyword).length + (if ([] : List Keyword).isEmpty then 0 else 1) < 30)) = true := by rfl)
    (hline : (apos.endLine == cpos.line) = true := by rfl) (hst : starEach [e] X.env = (false, eval e X.env) :: starEach [] X.env := by rfl) (hplain : (backTo cpos (starEach [] X.env)).any (·.1) = false := by rfl)
    (hs : swapsWith (.Call (.Attribute o "append" apos) [e] [] cpos) none pos.line X.env = pure false := by rfl) : PS X (.Expr (.Call (.Attribute o "append" apos) [e] [] cpos) pos) (upD X.K H0 O0 (dApp i t)) :=
  (ps_expr (pe_bm PySem.F.plainAttrs_list PySem.F.slot_list_append PySem.F.type_list_append mt_append ho (pa_cons he pa_nil hst) hbase hfew hline hst hplain) hs).imp fun D σ H ⟨O, δ, E, w, ⟨ds, e, q⟩, k1, k2, k3, k4⟩ => by
    obtain ⟨l, vs, h, a, b, c, r⟩ := w.own e
    refine ⟨_, h, .inl ⟨rfl, _, SqL.of c⟩, O, δ, _, w, q, fun d v H1 q1 s1 r1 => ?_⟩
    refine ⟨l, vs, v, rfl, rfl, s1 _ _ c, by rw [r.length]; exact q1.1, ?_⟩
    exact k1 _ _ _ _ q1.2 ((w.mono s1).putO (vs := vs) e h ((r.mono s1).append (.cons r1 .nil))) ⟨fun b' o' z n => by rw [upd_ne (fun y => n (by rw [y]; exact a))]; exact s1 _ _ z, fun _ _ n => n⟩
end
end L2

namespace L2
open PySem PySem.Spec PyProof.Rows PySem.W
structure SrcP (J : It) (P : Hp → Prop) (vs : List V) : Prop where
  go : ∀ i H', P H' → i < vs.length → J.go i H'
  yl : ∀ i H' x H'', P H' → i < vs.length → J.yld i H' x H'' → H'' = H' ∧ vs[i]? = some x
  st : ∀ i H', P H' → vs.length ≤ i → J.stop i H'
def KeepA (H1 : Hp) (a : Addr) (H' : Hp) : Prop := ∀ o, H1 a = some o → H' a = some o
theorem SqL.keep {K : PySem.W.Frag} {H H' : Hp} {a : Addr} {xs : List V} (s : KeepA H a H') (h : SqL K H a xs) : SqL K H' a xs := by
  rcases h with (h | ⟨o, h⟩) | h
  · exact .inl (.inl (s _ h))
  · exact .inl (.inr ⟨o, s _ h⟩)
  · exact .inr h
theorem SqT.keep {K : PySem.W.Frag} {H H' : Hp} {a : Addr} {xs : List V} (s : KeepA H a H') (h : SqT K H a xs) : SqT K H' a xs := by
  rcases h with (h | ⟨o, h⟩) | h
  · exact .inl (.inl (s _ h))
  · exact .inl (.inr ⟨o, s _ h⟩)
  · exact .inr h
theorem SrcP.list {K : PySem.W.Frag} {H : Hp} {a : Addr} {vs : List V} (h : SqL K H a vs) : SrcP (Itl K a) (KeepA H a) vs :=
  ⟨fun i H' s hi => ⟨vs, vs[i], h.keep s, by simp [hi]⟩, fun i H' x H'' s _ y => ⟨y.1, y.2 vs (h.keep s)⟩, fun i H' s hi => ⟨vs, h.keep s, hi⟩⟩
theorem SrcP.tup {K : PySem.W.Frag} {H : Hp} {a : Addr} {vs : List V} (h : SqT K H a vs) : SrcP (Itt K a) (KeepA H a) vs :=
  ⟨fun i H' s hi => ⟨vs, vs[i], h.keep s, by simp [hi]⟩, fun i H' x H'' s _ y => ⟨y.1, y.2 vs (h.keep s)⟩, fun i H' s hi => ⟨vs, h.keep s, hi⟩⟩
def rangeD (lo : Int) (n : Nat) : List PyData := (List.range n).map fun (k : Nat) => .int (lo + k)
theorem SrcP.rng {lo : Int} {n : Nat} : SrcP (Itr lo n) (fun _ => True) ((List.range n).map fun (k : Nat) => V.int (lo + k)) := by
  refine ⟨fun i H' s hi => (by simpa using hi : i < n), fun i H' x H'' s hi y => ⟨y.1, ?_⟩, fun i H' s hi => (by simpa using hi : n ≤ i)⟩
  obtain ⟨_, rfl⟩ := y
  have hn : i < n := by simpa using hi
  simp [hn]
theorem Dts.rng {K : PySem.W.Frag} {H : Hp} {O : Ex} {lo : Int} : ∀ (l : List Nat), Dts K H O (l.map fun (k : Nat) => V.int (lo + k)) (l.map fun (k : Nat) => PyData.int (lo + k))
  | [] => .nil
  | n :: r => .cons (.int _) (Dts.rng r)
/-! targets -/
abbrev DG := PyData → Dl → (Dl → Prop) → Prop
def GD (K : PySem.W.Frag) (g : TG) (dg : DG) : Prop := ∀ (H0 : Hp) (O0 : Ex) (H : Hp) (O : Ex) (σ : St) (δ : Dl) (v : V) (x : PyData) (R : St → Hp → Prop) (Qd : Dl → Prop), Wd K H0 O0 H O σ δ → Dt K H O v x → dg x δ Qd → (∀ δ' σ', Qd δ' → Wd K H0 O0 H O σ' δ' → R σ' H) → g v σ H R
def dgName (i : Nat) : DG := fun x δ Q => Q (δ.set i (some (.v x)))
theorem gd_name {K : PySem.W.Frag} {i : Nat} : GD K (gName i) (dgName i) := fun H0 O0 H O σ δ v x R Qd w r q k => k _ _ q (w.set r)
abbrev DGs := List PyData → Dl → (Dl → Prop) → Prop
def GDs (K : PySem.W.Frag) (g : TGs) (dg : DGs) : Prop := ∀ (H0 : Hp) (O0 : Ex) (H : Hp) (O : Ex) (σ : St) (δ : Dl) (vs : List V) (xs : List PyData) (R : St → Hp → Prop) (Qd : Dl → Prop), Wd K H0 O0 H O σ δ → Dts K H O vs xs → dg xs δ Qd → (∀ δ' σ', Qd δ' → Wd K H0 O0 H O σ' δ' → R σ' H) → g vs σ H R
def dgNil : DGs := fun xs δ Q => xs = [] ∧ Q δ
def dgCons (t : DG) (u : DGs) : DGs := fun xs δ Q => ∃ x r, xs = x :: r ∧ t x δ fun δ' => u r δ' Q
theorem gds_nil {K : PySem.W.Frag} : GDs K gNil dgNil := fun H0 O0 H O σ δ vs xs R Qd w r ⟨e, q⟩ k => by subst e; cases r; exact ⟨rfl, k _ _ q w⟩
theorem gds_cons {K : PySem.W.Frag} {t : TG} {u : TGs} {dt : DG} {du : DGs} (h : GD K t dt) (h2 : GDs K u du) : GDs K (gCons t u) (dgCons dt du) := fun H0 O0 H O σ δ vs xs R Qd w r ⟨x, rr, e, q⟩ k => by
  subst e
  cases r with
  | cons r1 r2 => exact ⟨_, _, rfl, h H0 O0 H O σ δ _ _ _ _ w r1 q fun δ' σ' q' w' => h2 H0 O0 H O σ' δ' _ _ R Qd w' r2 q' k⟩
def dgTup (n : Nat) (t : DGs) : DG := fun x δ Q => ∃ xs, x = .tuple xs ∧ xs.length = n ∧ t xs δ Q
theorem gd_tup {K : PySem.W.Frag} {n : Nat} {t : TGs} {dt : DGs} (h : GDs K t dt) : GD K (gTup K n t) (dgTup n dt) := fun H0 O0 H O σ δ v x R Qd w r ⟨xs, e, hl, q⟩ k => by
  subst e
  obtain ⟨a, vs, rfl, hs, rr⟩ := (Sh.dt r).tup
  exact ⟨a, vs, rfl, hs, by rw [rr.length]; exact hl, h H0 O0 H O σ δ _ _ R Qd w rr q k⟩
section
variable {X : Cx} {H0 : Hp} {O0 : Ex}
def dAsg (t : DT) (g : DG) : DS := fun E δ => t δ fun d => g d δ E.nx
theorem ds_asg {tg e : Expr} {t : DT} {g : TG} {dg : DG} {pos : Pos} (he : DE X H0 O0 e t) (hg : PG X tg g) (gd : GD X.K g dg) (hs : swapsWithSole [tg] e pos.line X.env = pure false := by rfl) (hw : swappedStores [tg] e X.env = pure none := by rfl)
    (h1 : (assignEach [tg] X.env).map (·.2) = [assign tg X.env] := by rfl) : PS X (.Assign [tg] e pos) (upD X.K H0 O0 (dAsg t dg)) :=
  (ps_asg he hg hs hw h1).imp fun D σ H ⟨O, δ, E, w, q, k1, k2, k3, k4⟩ => ⟨O, δ, _, w, q, fun d v H1 q1 s1 r1 => gd H0 O0 H1 O σ δ v d _ _ (w.mono s1) r1 q1 fun δ' σ' q' w' => k1 O δ' σ' H1 q' w' (.same s1)⟩
def dPar (i j : Nat) (t : DA) : DS := fun E δ => t δ fun ds => ∃ x y, ds = [x, y] ∧ E.nx ((δ.set i (some (.v x))).set j (some (.v y)))
theorem ds_par {i j : Nat} {x y : Str} {a b : Expr} {ta : DA} {px py pt pos : Pos} {kt k2 pt2} (hc : X.calm = true) (hN : X.N.Nodup) (hi : X.N[i]? = some x) (hj : X.N[j]? = some y) (hij : i ≠ j)
    (hx : X.env.scope.names.lookup x = some .local) (hy : X.env.scope.names.lookup y = some .local) (ha : PA X [a, b] (upA X.K H0 O0 ta))
    (hw : swappedStores [.Tuple [.Name x px, .Name y py] kt pt] (.Tuple [a, b] k2 pt2) X.env = pure (some [x, y]))
    (hs : swapsWithSole [.Tuple [.Name x px, .Name y py] kt pt] (.Tuple [a, b] k2 pt2) pos.line X.env = pure false := by rfl) :
    PS X (.Assign [.Tuple [.Name x px, .Name y py] kt pt] (.Tuple [a, b] k2 pt2) pos) (upD X.K H0 O0 (dPar i j ta)) :=
  (ps_par hc hN hi hj hij hx hy ha hw hs).imp fun D σ H ⟨O, δ, E, w, q, k1, k2, k3, k4⟩ => ⟨O, δ, _, w, q, fun ds vs H1 ⟨d1, d2, e, q1⟩ s1 r1 => by
    subst e
    cases r1 with
    | cons r1 r2 =>
      cases r2 with
      | cons r2 r3 =>
        cases r3
        exact ⟨_, _, rfl, k1 _ _ _ _ q1 (((w.mono s1).set r1).set r2) (.same s1)⟩⟩
/-! ### for -/
def forW (g : DG) (tb : DS) (E : DEnds) : List PyData → Dl → Prop
  | [], δ => E.nx δ
  | x :: xs, δ => g x δ fun δ2 => tb { E with nx := forW g tb E xs, ct := forW g tb E xs, bk := E.nx } δ2
theorem for_step {K : PySem.W.Frag} {J : It} {P : Hp → Prop} {vs : List V} {xs : List PyData} {g : TG} {dg : DG} {tb : DS} {D : Ends} {E : DEnds} {σ : St} {H : Hp} {O : Ex} {δ : Dl} (S : SrcP J P vs) (gd : GD K g dg)
    (hP : ∀ H' O', Step H H' O O' → P H') (r : Dts K H O vs xs) (w : Wd K H0 O0 H O σ δ) (q : forW dg tb E xs δ)
    (k1 : ∀ O' δ' σ' H', E.nx δ' → Wd K H0 O0 H' O' σ' δ' → Step H H' O O' → D.nx σ' H') (k2 : ∀ d v H', E.rt d → Same H0 H' → Dt K H' O0 v d → D.rt v H') : FR J g (upD K H0 O0 tb) D σ H := by
  refine ⟨fun i m σ' H' => ∃ O' δ', m = vs.length - i ∧ i ≤ vs.length ∧ Wd K H0 O0 H' O' σ' δ' ∧ Step H H' O O' ∧ forW dg tb E (xs.drop i) δ', ⟨vs.length, O, δ, by simp, Nat.zero_le _, w, Step.refl _ _, by simpa using q⟩, ?_⟩
  rintro i m σ1 H1 ⟨O1, δ1, rfl, hi, w1, S1, q1⟩
  by_cases hlt : i < vs.length
  · refine .inr ⟨S.go i H1 (hP _ _ S1) hlt, fun σ' H' => ∃ O' δ', Wd K H0 O0 H' O' σ' δ' ∧ Step H H' O O' ∧ forW dg tb E (xs.drop (i + 1)) δ', fun σ' H' ⟨O', δ', w', S', q'⟩ => ⟨vs.length - (i + 1), by omega, O', δ', rfl, hlt, w', S', q'⟩, fun x H' y => ?_⟩
    have yy := S.yl i H1 x H' (hP _ _ S1) hlt y
    clear y
    obtain ⟨e, y⟩ := yy
    subst e
    obtain ⟨d, ed, rd⟩ := r.get y
    have hd : xs.drop i = d :: xs.drop (i + 1) := by
      rw [List.drop_eq_getElem_cons (h := (List.getElem?_eq_some_iff.mp ed).1), (List.getElem?_eq_some_iff.mp ed).2]
    rw [hd] at q1
    refine gd H0 O0 _ O1 σ1 δ1 x d _ _ w1 (rd.step S1) q1 fun δ2 σ2 q2 w2 => ?_
    refine ⟨O1, δ2, _, w2, q2, fun O' δ' σ' H' z w' S' => ⟨O', δ', w', S1.trans S', z⟩, k2, fun O' δ' σ' H' z w' S' => k1 O' δ' σ' H' z w' (S1.trans S'), fun O' δ' σ' H' z w' S' => ⟨O', δ', w', S1.trans S', z⟩⟩
  · have e : i = vs.length := by omega
    subst e
    refine .inl ⟨S.st _ H1 (hP _ _ S1) (Nat.le_refl _), ?_⟩
    rw [r.length, List.drop_of_length_le (Nat.le_refl _)] at q1
    exact k1 O1 δ1 σ1 H1 q1 w1 S1
def forI (g : DG) (tb : DS) (E : DEnds) (xs : List PyData) (δ : Dl) : Prop := ∃ I : Nat → Dl → Prop, I 0 δ ∧ (∀ i x δ, xs[i]? = some x → I i δ → g x δ fun δ2 => tb { E with nx := I (i + 1), ct := I (i + 1), bk := E.nx } δ2) ∧ ∀ δ, I xs.length δ → E.nx δ
theorem for_stepI {K : PySem.W.Frag} {J : It} {P : Hp → Prop} {vs : List V} {xs : List PyData} {g : TG} {dg : DG} {tb : DS} {D : Ends} {E : DEnds} {σ : St} {H : Hp} {O : Ex} {δ : Dl} (S : SrcP J P vs) (gd : GD K g dg)
    (hP : ∀ H' O', Step H H' O O' → P H') (r : Dts K H O vs xs) (w : Wd K H0 O0 H O σ δ) (q : forI dg tb E xs δ)
    (k1 : ∀ O' δ' σ' H', E.nx δ' → Wd K H0 O0 H' O' σ' δ' → Step H H' O O' → D.nx σ' H') (k2 : ∀ d v H', E.rt d → Same H0 H' → Dt K H' O0 v d → D.rt v H') : FR J g (upD K H0 O0 tb) D σ H := by
  obtain ⟨Iv, q0, qs, qe⟩ := q
  refine ⟨fun i m σ' H' => ∃ O' δ', m = vs.length - i ∧ i ≤ vs.length ∧ Wd K H0 O0 H' O' σ' δ' ∧ Step H H' O O' ∧ Iv i δ', ⟨vs.length, O, δ, by simp, Nat.zero_le _, w, Step.refl _ _, q0⟩, ?_⟩
  rintro i m σ1 H1 ⟨O1, δ1, rfl, hi, w1, S1, q1⟩
  by_cases hlt : i < vs.length
  · refine .inr ⟨S.go i H1 (hP _ _ S1) hlt, fun σ' H' => ∃ O' δ', Wd K H0 O0 H' O' σ' δ' ∧ Step H H' O O' ∧ Iv (i + 1) δ', fun σ' H' ⟨O', δ', w', S', q'⟩ => ⟨vs.length - (i + 1), by omega, O', δ', rfl, hlt, w', S', q'⟩, fun x H' y => ?_⟩
    have yy := S.yl i H1 x H' (hP _ _ S1) hlt y
    clear y
    obtain ⟨e, y⟩ := yy
    subst e
    obtain ⟨d, ed, rd⟩ := r.get y
    refine gd H0 O0 _ O1 σ1 δ1 x d _ _ w1 (rd.step S1) (qs i d δ1 ed q1) fun δ2 σ2 q2 w2 => ?_
    refine ⟨O1, δ2, _, w2, q2, fun O' δ' σ' H' z w' S' => ⟨O', δ', w', S1.trans S', z⟩, k2, fun O' δ' σ' H' z w' S' => k1 O' δ' σ' H' z w' (S1.trans S'), fun O' δ' σ' H' z w' S' => ⟨O', δ', w', S1.trans S', z⟩⟩
  · have e : i = vs.length := by omega
    subst e
    refine .inl ⟨S.st _ H1 (hP _ _ S1) (Nat.le_refl _), ?_⟩
    rw [r.length] at q1
    exact k1 O1 δ1 σ1 H1 (qe δ1 q1) w1 S1
def dFor (t : DT) (g : DG) (tb : DS) : DS := fun E δ => t δ fun d => ∃ xs, d = .list xs ∧ forW g tb E xs δ
def dForT (t : DT) (g : DG) (tb : DS) : DS := fun E δ => t δ fun d => ∃ xs, d = .tuple xs ∧ forW g tb E xs δ
def dForR (t : DA) (g : DG) (tb : DS) : DS := fun E δ => t δ fun ds => ∃ j : Int, ds = [.int j] ∧ -(2 ^ 62) ≤ j ∧ j < 2 ^ 62 ∧ forW g tb E (rangeD 0 j.toNat) δ
def dForR2 (t : DA) (g : DG) (tb : DS) : DS := fun E δ => t δ fun ds => ∃ i j : Int, ds = [.int i, .int j] ∧ (-(2 ^ 62) ≤ i ∧ i < 2 ^ 62 ∧ -(2 ^ 62) ≤ j ∧ j < 2 ^ 62) ∧ forW g tb E (rangeD i (j - i).toNat) δ
section
variable {tg iter : Expr} {body : List Stmt} {t : DT} {ta : DA} {g : TG} {dg : DG} {tb : DS} {pos p ps : Pos}
end
def dForI (t : DT) (g : DG) (tb : DS) : DS := fun E δ => t δ fun d => ∃ xs, d = .list xs ∧ forI g tb E xs δ
def dForTI (t : DT) (g : DG) (tb : DS) : DS := fun E δ => t δ fun d => ∃ xs, d = .tuple xs ∧ forI g tb E xs δ
def dForRI (t : DA) (g : DG) (tb : DS) : DS := fun E δ => t δ fun ds => ∃ j : Int, ds = [.int j] ∧ -(2 ^ 62) ≤ j ∧ j < 2 ^ 62 ∧ forI g tb E (rangeD 0 j.toNat) δ
def dForR2I (t : DA) (g : DG) (tb : DS) : DS := fun E δ => t δ fun ds => ∃ i j : Int, ds = [.int i, .int j] ∧ (-(2 ^ 62) ≤ i ∧ i < 2 ^ 62 ∧ -(2 ^ 62) ≤ j ∧ j < 2 ^ 62) ∧ forI g tb E (rangeD i (j - i).toNat) δ
section
variable {tg iter : Expr} {body : List Stmt} {t : DT} {ta : DA} {g : TG} {dg : DG} {tb : DS} {pos p ps : Pos}
theorem ds_forI (hp : PassesOwn (model X.prog X.w) X.A X.env X.xe) (hc : X.calm = true) (hi : DE X H0 O0 iter t) (hg : PG X tg g) (gd : GD X.K g dg) (hb : PSs X body (upD X.K H0 O0 tb)) (hs : ∀ x, foldedSetIterable iter X.env x = pure x := by intro _; rfl) :
    PS X (.For tg iter body [] pos) (upD X.K H0 O0 (dForI t dg tb)) :=
  (ps_for hp hc (pi_list hi) hg hb hs).imp fun D σ H ⟨O, δ, E, w, q, k1, k2, k3, k4⟩ => ⟨O, δ, _, w, q, fun d v H1 ⟨xs, e, q1⟩ s1 r1 => by
    subst e
    cases r1 with
    | lst h n r =>
      refine ⟨_, rfl, ⟨_, .inl h⟩, for_stepI (SrcP.list (.inl h)) gd (fun H' O' S o e => S.keep _ _ e n) r (w.mono s1) q1 (fun O' δ' σ' H' z w' S => k1 O' δ' σ' H' z w' (Step.trans (.same s1) S)) k2⟩⟩
theorem ds_forTI (hp : PassesOwn (model X.prog X.w) X.A X.env X.xe) (hc : X.calm = true) (hi : DE X H0 O0 iter t) (hg : PG X tg g) (gd : GD X.K g dg) (hb : PSs X body (upD X.K H0 O0 tb)) (hs : ∀ x, foldedSetIterable iter X.env x = pure x := by intro _; rfl) :
    PS X (.For tg iter body [] pos) (upD X.K H0 O0 (dForTI t dg tb)) :=
  (ps_for hp hc (pi_tup hi) hg hb hs).imp fun D σ H ⟨O, δ, E, w, q, k1, k2, k3, k4⟩ => ⟨O, δ, _, w, q, fun d v H1 ⟨xs, e, q1⟩ s1 r1 => by
    subst e
    cases r1 with
    | tup h n r =>
      refine ⟨_, rfl, ⟨_, .inl h⟩, for_stepI (SrcP.tup (.inl h)) gd (fun H' O' S o e => S.keep _ _ e n) r (w.mono s1) q1 (fun O' δ' σ' H' z w' S => k1 O' δ' σ' H' z w' (Step.trans (.same s1) S)) k2⟩
    | tupK h r =>
      refine ⟨_, rfl, ⟨_, h.of0⟩, for_stepI (P := fun _ => True) ⟨fun i H' _ hi => ⟨_, _, h.of0, by simp [hi]; rfl⟩, fun i H' x H'' _ _ y => ⟨y.1, y.2 _ h.of0⟩, fun i H' _ hi => ⟨_, h.of0, hi⟩⟩ gd (fun _ _ _ => trivial) r (w.mono s1) q1 (fun O' δ' σ' H' z w' S => k1 O' δ' σ' H' z w' (Step.trans (.same s1) S)) k2⟩⟩
theorem ds_forRI (hp : PassesOwn (model X.prog X.w) X.A X.env X.xe) (hc : X.calm = true) {a : Expr} (hgl : Gl X "range") (hm : X.mg "range" = none) (ha : PA X [a] (upA X.K H0 O0 ta)) (hg : PG X tg g) (gd : GD X.K g dg) (hb : PSs X body (upD X.K H0 O0 tb))
    (hst : starEach [a] X.env = [(false, eval a X.env)] := by rfl) (hs : ∀ x, foldedSetIterable (.Call (.Name "range" p) [a] [] ps) X.env x = pure x := by intro _; rfl) :
    PS X (.For tg (.Call (.Name "range" p) [a] [] ps) body [] pos) (upD X.K H0 O0 (dForRI ta dg tb)) :=
  (ps_for hp hc (pi_range1 hgl hm ha hst) hg hb hs).imp fun D σ H ⟨O, δ, E, w, q, k1, k2, k3, k4⟩ => ⟨O, δ, _, w, q, fun ds vs H1 ⟨j, e, b1, b2, q1⟩ s1 r1 => by
    subst e
    cases r1 with
    | cons r1 r2 =>
      cases r2; cases r1
      exact ⟨j, rfl, b1, b2, for_stepI SrcP.rng gd (fun _ _ _ => trivial) (Dts.rng _) (w.mono s1) q1 (fun O' δ' σ' H' z w' S => k1 O' δ' σ' H' z w' (Step.trans (.same s1) S)) k2⟩⟩
end
/-! ### a list under way is let be -/
theorem Wd.letbe {K : PySem.W.Frag} {H : Hp} {O : Ex} {σ : St} {δ : Dl} (w : Wd K H0 O0 H O σ δ) {i : Nat} {l : Addr} {y0 : Sl} {d : PyData} (e : δ[i]? = some (some y0)) (ho : y0.own) (h : σ[i]? = some (some (.ref l))) (hd : ∀ O', Step H H O O' → ¬ O' l → Dt K H O' (.ref l) d) :
    ∃ O', Wd K H0 O0 H O' σ (δ.set i (some (.v d))) ∧ Step H H O O' := by
  obtain ⟨l', x1, a, b⟩ := w.adr e ho
  rw [h] at x1; cases x1
  have S : Step H H O (fun x => O x ∧ x ≠ l) := ⟨fun _ _ z _ => z, fun _ _ n z => n z.1⟩
  have li : i < δ.length := (List.getElem?_eq_some_iff.mp e).1
  have ne : ∀ {j : Nat} {y : Sl}, (δ.set i (some (.v d)))[j]? = some (some y) → y.own → j ≠ i := fun {j y} q hy z => by
    subst z; rw [List.getElem?_set_self li] at q; cases q; exact hy
  refine ⟨_, ⟨w.same, fun x z => ⟨w.sub x z, fun y => b (by rw [← y]; exact z)⟩, fun x z => w.new x z.1, fun x z => w.trk x z.1, by simp [w.len], fun j y q => ?_, fun j k y z l' e1 y1 e2 z2 e3 e4 => ?_⟩, S⟩
  · by_cases hj : j = i
    · subst hj
      rw [List.getElem?_set_self li] at q
      cases q
      exact ⟨.ref l, by rw [h]; rfl, hd _ S (fun z => z.2 rfl)⟩
    · rw [List.getElem?_set_ne (Ne.symm hj)] at q
      refine (w.sl j y q).go S fun b o ho' e' a1 a2 a3 => ⟨⟨a1, fun z => ?_⟩, a3⟩
      subst z
      match y, ho', q with
      | some z, ho', q => exact hj (w.dis j i z y0 _ q (by cases z <;> first | trivial | cases ho') e ho (at_join e') h)
  · have n1 := ne e1 y1; have n2 := ne e2 z2
    rw [List.getElem?_set_ne (Ne.symm n1)] at e1
    rw [List.getElem?_set_ne (Ne.symm n2)] at e2
    exact w.dis j k _ _ l' e1 y1 e2 z2 e3 e4
/-- ahead of a statement -/
def dFrz (i : Nat) (t : DS) : DS := fun E δ => ∃ ds, δ[i]? = some (some (.o ds)) ∧ t E (δ.set i (some (.v (.list ds))))
/-! ### comprehensions -/
def dst0 (k : Nat) (fr : List Nat) (δ : Dl) : Dl := List.replicate k none ++ fr.map fun j => (δ[j]?).join
def compW (g : DG) (tc : DB) (te : DT) (δ0 : Dl) : List PyData → List PyData → (List PyData → Prop) → Prop
  | [], acc, Q => Q acc
  | x :: xs, acc, Q => g x δ0 fun δ2 => tc δ2 fun ok => if ok = true then te δ2 fun y => compW g tc te δ0 xs (acc ++ [y]) Q else compW g tc te δ0 xs acc Q
theorem Wd.comp {K : PySem.W.Frag} {H : Hp} {O : Ex} {σ : St} {δ : Dl} (w : Wd K H0 O0 H O σ δ) {k : Nat} {fr : List Nat} (hf : fr.Nodup) : Wd K H0 O0 H O (st0 k fr σ) (dst0 k fr δ) := by
  have at1 : ∀ {α : Type} (l : List (Option α)) (i : Nat), (List.replicate k none ++ fr.map fun j => (l[j]?).join)[i]? = if i < k then some none else (fr[i - k]?).map fun j => (l[j]?).join := by
    intro α l i
    by_cases h : i < k
    · rw [if_pos h, List.getElem?_append_left (by simpa using h), List.getElem?_replicate, if_pos h]
    · rw [if_neg h, List.getElem?_append_right (by simpa using Nat.le_of_not_lt h), List.getElem?_map]; simp
  have un : ∀ {α : Type} (l : List (Option α)) (i : Nat) (x : α), (List.replicate k none ++ fr.map fun j => (l[j]?).join)[i]? = some (some x) → ∃ j, fr[i - k]? = some j ∧ k ≤ i ∧ l[j]? = some (some x) := by
    intro α l i x h
    rw [at1] at h
    split at h
    · cases h
    · cases e : fr[i - k]? with
      | none => rw [e] at h; cases h
      | some j =>
        rw [e] at h
        refine ⟨j, rfl, by omega, ?_⟩
        have h' : (l[j]?).join = some x := Option.some.inj h
        cases q : l[j]? with
        | none => rw [q] at h'; cases h'
        | some o => rw [q] at h'; rw [show o = some x from h']
  refine ⟨w.same, w.sub, w.new, w.trk, by simp [st0, dst0], fun i y e => ?_, fun i j y z l e1 y1 e2 z2 e3 e4 => ?_⟩
  · match y, e with
    | none, _ => exact True.intro
    | some x, e =>
      obtain ⟨j, hj, hk, ej⟩ := un δ i x e
      have q := w.sl j _ ej
      have e2 : ((st0 k fr σ)[i]?).join = (σ[j]?).join := by
        unfold st0; rw [at1, if_neg (by omega), hj]; rfl
      rw [e2]; exact q
  · obtain ⟨a, ha, ka, ea⟩ := un δ i _ e1
    obtain ⟨b, hb, kb, eb⟩ := un δ j _ e2
    obtain ⟨a', ha', _, ea'⟩ := un σ i _ e3
    obtain ⟨b', hb', _, eb'⟩ := un σ j _ e4
    rw [ha] at ha'; cases ha'
    rw [hb] at hb'; cases hb'
    have := w.dis a b y z l ea y1 eb z2 ea' eb'
    subst this
    have e5 := (List.getElem?_inj (l := fr) (i := i - k) (j := j - k) (List.getElem?_eq_some_iff.mp ha).1 hf).mp (by rw [ha, hb])
    omega
theorem comp_step {K : PySem.W.Frag} {J : It} {P : Hp → Prop} {vs : List V} {xs : List PyData} {g : TG} {dg : DG} {tc : TT} {dc : DB} {te : TE} {de : DT} {k : Nat} {fr : List Nat} {σ : St} {H : Hp} {O : Ex} {δ : Dl} {Qd : List PyData → Prop} {Q : VK} (S : SrcP J P vs) (gd : GD K g dg) (hf : fr.Nodup)
    (hk : ∀ v : V, ∀ σ' : St, ∀ H' : Hp, ∀ R : St → Hp → Prop, g v (st0 k fr σ) H' R → g v (st0 k fr σ) H' fun σ2 H2 => Keep (st0 k fr σ) σ2 ∧ R σ2 H2)
    (hc : ∀ σ H Q, upT K H0 O0 dc σ H Q → tc σ H Q) (he : ∀ σ H Q, up K H0 O0 de σ H Q → te σ H Q)
    (hP : ∀ D H', H D = none → SameE D H H' → P H') (r : Dts K H O vs xs) (w : Wd K H0 O0 H O σ δ) (hz : vs.length ≤ sizeLine) (q : compW dg dc de (dst0 k fr δ) xs [] Qd)
    (k1 : ∀ ds us p H', Qd ds → Same H H' → H' p = none → Dts K H' O us ds → Q (.ref p) (upd H' p (.lst us))) : CmR J g tc te k fr σ H Q := by
  intro D hD
  have w0 : Wd K H0 O0 H O (st0 k fr σ) (dst0 k fr δ) := w.comp hf
  have nD : ¬ O D := fun z => w.trk D z hD
  have D0 : H0 D = none := by
    cases e : H0 D with
    | none => rfl
    | some o => rw [w.same _ _ e] at hD; cases hD
  -- with D excluded
  have ex : ∀ H', SameE D H H' → H' D ≠ none → Wd K H0 O0 H' (fun a => O a ∨ a = D) (st0 k fr σ) (dst0 k fr δ) := fun H' s' hd => by
    have S' : Step H H' O (fun a => O a ∨ a = D) := ⟨fun b o e _ => s' b o e (ne_of_none e hD), fun b hb hn z => z.elim hn fun q => hb (by rw [q]; exact hD)⟩
    refine ⟨fun b o e => s' b o (w.same b o e) (fun z => by rw [z, D0] at e; cases e), fun l z => .inl (w.sub l z), fun l z => z.elim (w.new l) fun q => .inr (by rw [q]; exact D0), fun l z => ?_, w0.len, fun j y e => ?_, w0.dis⟩
    · by_cases ql : l = D
      · rw [ql]; exact hd
      · have hl := w.trk l (z.resolve_right ql)
        cases e : H l with
        | none => exact absurd e hl
        | some o => rw [s' l o e ql]; exact fun z => nomatch z
    · exact (w0.sl j y e).go S' fun l o _ _ a1 _ a3 => ⟨.inl a1, s' _ _ a3 (fun z => nD (by rw [← z]; exact a1))⟩
  refine ⟨fun i m H' => ∃ acc ys, m = vs.length - i ∧ i ≤ vs.length ∧ SameE D H H' ∧ H' D = some (.lst ys) ∧ ys.length ≤ i ∧ Dts K H' (fun a => O a ∨ a = D) ys acc ∧ compW dg dc de (dst0 k fr δ) (xs.drop i) acc Qd, ⟨vs.length, [], [], by simp, Nat.zero_le _, fun b o e n => by rw [upd_ne n]; exact e, upd_same, Nat.zero_le _, .nil, by simpa using q⟩, ?_⟩
  rintro i m H1 ⟨acc, ys, rfl, hi, s1, e1, hy, ra, q1⟩
  by_cases hlt : i < vs.length
  · refine .inr ⟨S.go i H1 (hP D H1 hD s1) hlt, fun x H' y => ?_⟩
    have yy := S.yl i H1 x H' (hP D H1 hD s1) hlt y
    clear y
    obtain ⟨e, y⟩ := yy
    subst e
    obtain ⟨d, ed, rd⟩ := r.get y
    have hd : xs.drop i = d :: xs.drop (i + 1) := by
      rw [List.drop_eq_getElem_cons (h := (List.getElem?_eq_some_iff.mp ed).1), (List.getElem?_eq_some_iff.mp ed).2]
    rw [hd] at q1
    have w1 := ex _ s1 (by rw [e1]; exact fun z => nomatch z)
    have S' : Step H H' O (fun a => O a ∨ a = D) := ⟨fun b o e _ => s1 b o e (ne_of_none e hD), fun b hb hn z => z.elim hn fun q => hb (by rw [q]; exact hD)⟩
    refine hk x σ _ _ (gd H0 O0 _ _ _ _ x d _ _ w1 (rd.step S') q1 fun δ2 σ2 q2 w2 => ?_)
    refine hc σ2 _ _ ⟨_, δ2, _, w2, q2, fun ok H3 q3 s3 => ?_⟩
    cases ok with
    | true =>
      rw [if_pos rfl]
      refine he σ2 H3 _ ⟨_, δ2, _, w2.mono s3, q3, fun d' v H4 q4 s4 r4 => ?_⟩
      have e4 := s4 _ _ (s3 _ _ e1)
      have sD : Step H4 (upd H4 D (.lst (ys ++ [v]))) (fun a => O a ∨ a = D) (fun a => O a ∨ a = D) := ⟨fun b o e n => by rw [upd_ne (fun z => n (.inr z))]; exact e, fun _ _ n => n⟩
      refine ⟨ys, e4, by omega, vs.length - (i + 1), by omega, acc ++ [d'], ys ++ [v], rfl, hlt, fun b o e n => by rw [upd_ne n]; exact s4 _ _ (s3 _ _ (s1 b o e n)), upd_same, by simpa using hy, ?_, q4⟩
      exact ((ra.mono (s3.trans s4)).append (.cons r4 .nil)).step sD
    | false =>
      rw [if_neg (by decide)]
      exact ⟨vs.length - (i + 1), by omega, acc, ys, rfl, hlt, fun b o e n => s3 _ _ (s1 b o e n), s3 _ _ e1, by omega, ra.mono s3, q3⟩
  · have e : i = vs.length := by omega
    subst e
    refine .inl ⟨S.st _ H1 (hP D H1 hD s1) (Nat.le_refl _), ?_⟩
    rw [r.length, List.drop_of_length_le (Nat.le_refl _)] at q1
    -- the list D, new over the rest
    have hrest : ∃ H2 : Hp, H2 D = none ∧ Same H H2 ∧ H1 = upd H2 D (.lst ys) := by
      refine ⟨fun b => if b = D then none else H1 b, by simp, fun b o e => ?_, ?_⟩
      · have n := ne_of_none e hD
        show (if b = D then none else H1 b) = some o
        rw [if_neg n]; exact s1 b o e n
      · funext b
        by_cases z : b = D
        · rw [z, upd_same]; exact e1
        · rw [upd_ne z]; show H1 b = if b = D then none else H1 b; rw [if_neg z]
    obtain ⟨H2, h2, s2, rfl⟩ := hrest
    refine k1 acc ys D H2 q1 s2 h2 (ra.step ⟨fun b o e n => ?_, fun b _ n z => n (.inl z)⟩)
    rw [upd_ne (fun z => n (.inr z))] at e; exact e
def compI (g : DG) (tc : DB) (te : DT) (δ0 : Dl) (xs : List PyData) (Q : List PyData → Prop) : Prop := ∃ I : Nat → List PyData → Prop, I 0 [] ∧ (∀ i x acc, xs[i]? = some x → I i acc → g x δ0 fun δ2 => tc δ2 fun ok => if ok = true then te δ2 fun y => I (i + 1) (acc ++ [y]) else I (i + 1) acc) ∧ ∀ acc, I xs.length acc → Q acc
theorem comp_stepI {K : PySem.W.Frag} {J : It} {P : Hp → Prop} {vs : List V} {xs : List PyData} {g : TG} {dg : DG} {tc : TT} {dc : DB} {te : TE} {de : DT} {k : Nat} {fr : List Nat} {σ : St} {H : Hp} {O : Ex} {δ : Dl} {Qd : List PyData → Prop} {Q : VK} (S : SrcP J P vs) (gd : GD K g dg) (hf : fr.Nodup)
    (hk : ∀ v : V, ∀ σ' : St, ∀ H' : Hp, ∀ R : St → Hp → Prop, g v (st0 k fr σ) H' R → g v (st0 k fr σ) H' fun σ2 H2 => Keep (st0 k fr σ) σ2 ∧ R σ2 H2)
    (hc : ∀ σ H Q, upT K H0 O0 dc σ H Q → tc σ H Q) (he : ∀ σ H Q, up K H0 O0 de σ H Q → te σ H Q)
    (hP : ∀ D H', H D = none → SameE D H H' → P H') (r : Dts K H O vs xs) (w : Wd K H0 O0 H O σ δ) (hz : vs.length ≤ sizeLine) (q : compI dg dc de (dst0 k fr δ) xs Qd)
    (k1 : ∀ ds us p H', Qd ds → Same H H' → H' p = none → Dts K H' O us ds → Q (.ref p) (upd H' p (.lst us))) : CmR J g tc te k fr σ H Q := by
  obtain ⟨Iv, q0, qs, qe⟩ := q
  intro D hD
  have w0 : Wd K H0 O0 H O (st0 k fr σ) (dst0 k fr δ) := w.comp hf
  have nD : ¬ O D := fun z => w.trk D z hD
  have D0 : H0 D = none := by
    cases e : H0 D with
    | none => rfl
    | some o => rw [w.same _ _ e] at hD; cases hD
  -- with D excluded
  have ex : ∀ H', SameE D H H' → H' D ≠ none → Wd K H0 O0 H' (fun a => O a ∨ a = D) (st0 k fr σ) (dst0 k fr δ) := fun H' s' hd => by
    have S' : Step H H' O (fun a => O a ∨ a = D) := ⟨fun b o e _ => s' b o e (ne_of_none e hD), fun b hb hn z => z.elim hn fun q => hb (by rw [q]; exact hD)⟩
    refine ⟨fun b o e => s' b o (w.same b o e) (fun z => by rw [z, D0] at e; cases e), fun l z => .inl (w.sub l z), fun l z => z.elim (w.new l) fun q => .inr (by rw [q]; exact D0), fun l z => ?_, w0.len, fun j y e => ?_, w0.dis⟩
    · by_cases ql : l = D
      · rw [ql]; exact hd
      · have hl := w.trk l (z.resolve_right ql)
        cases e : H l with
        | none => exact absurd e hl
        | some o => rw [s' l o e ql]; exact fun z => nomatch z
    · exact (w0.sl j y e).go S' fun l o _ _ a1 _ a3 => ⟨.inl a1, s' _ _ a3 (fun z => nD (by rw [← z]; exact a1))⟩
  refine ⟨fun i m H' => ∃ acc ys, m = vs.length - i ∧ i ≤ vs.length ∧ SameE D H H' ∧ H' D = some (.lst ys) ∧ ys.length ≤ i ∧ Dts K H' (fun a => O a ∨ a = D) ys acc ∧ Iv i acc, ⟨vs.length, [], [], by simp, Nat.zero_le _, fun b o e n => by rw [upd_ne n]; exact e, upd_same, Nat.zero_le _, .nil, q0⟩, ?_⟩
  rintro i m H1 ⟨acc, ys, rfl, hi, s1, e1, hy, ra, q1⟩
  by_cases hlt : i < vs.length
  · refine .inr ⟨S.go i H1 (hP D H1 hD s1) hlt, fun x H' y => ?_⟩
    have yy := S.yl i H1 x H' (hP D H1 hD s1) hlt y
    clear y
    obtain ⟨e, y⟩ := yy
    subst e
    obtain ⟨d, ed, rd⟩ := r.get y
    have w1 := ex _ s1 (by rw [e1]; exact fun z => nomatch z)
    have S' : Step H H' O (fun a => O a ∨ a = D) := ⟨fun b o e _ => s1 b o e (ne_of_none e hD), fun b hb hn z => z.elim hn fun q => hb (by rw [q]; exact hD)⟩
    refine hk x σ _ _ (gd H0 O0 _ _ _ _ x d _ _ w1 (rd.step S') (qs i d acc ed q1) fun δ2 σ2 q2 w2 => ?_)
    refine hc σ2 _ _ ⟨_, δ2, _, w2, q2, fun ok H3 q3 s3 => ?_⟩
    cases ok with
    | true =>
      rw [if_pos rfl]
      refine he σ2 H3 _ ⟨_, δ2, _, w2.mono s3, q3, fun d' v H4 q4 s4 r4 => ?_⟩
      have e4 := s4 _ _ (s3 _ _ e1)
      have sD : Step H4 (upd H4 D (.lst (ys ++ [v]))) (fun a => O a ∨ a = D) (fun a => O a ∨ a = D) := ⟨fun b o e n => by rw [upd_ne (fun z => n (.inr z))]; exact e, fun _ _ n => n⟩
      refine ⟨ys, e4, by omega, vs.length - (i + 1), by omega, acc ++ [d'], ys ++ [v], rfl, hlt, fun b o e n => by rw [upd_ne n]; exact s4 _ _ (s3 _ _ (s1 b o e n)), upd_same, by simpa using hy, ?_, q4⟩
      exact ((ra.mono (s3.trans s4)).append (.cons r4 .nil)).step sD
    | false =>
      rw [if_neg (by decide)]
      exact ⟨vs.length - (i + 1), by omega, acc, ys, rfl, hlt, fun b o e n => s3 _ _ (s1 b o e n), s3 _ _ e1, by omega, ra.mono s3, q3⟩
  · have e : i = vs.length := by omega
    subst e
    refine .inl ⟨S.st _ H1 (hP D H1 hD s1) (Nat.le_refl _), ?_⟩
    rw [r.length] at q1
    -- the list D, new over the rest
    have hrest : ∃ H2 : Hp, H2 D = none ∧ Same H H2 ∧ H1 = upd H2 D (.lst ys) := by
      refine ⟨fun b => if b = D then none else H1 b, by simp, fun b o e => ?_, ?_⟩
      · have n := ne_of_none e hD
        show (if b = D then none else H1 b) = some o
        rw [if_neg n]; exact s1 b o e n
      · funext b
        by_cases z : b = D
        · rw [z, upd_same]; exact e1
        · rw [upd_ne z]; show H1 b = if b = D then none else H1 b; rw [if_neg z]
    obtain ⟨H2, h2, s2, rfl⟩ := hrest
    refine k1 acc ys D H2 (qe acc q1) s2 h2 (ra.step ⟨fun b o e n => ?_, fun b _ n z => n (.inl z)⟩)
    rw [upd_ne (fun z => n (.inr z))] at e; exact e
/-- a comprehension over a list -/
def dComp (t : DT) (g : DG) (tc : DB) (te : DT) (k : Nat) (fr : List Nat) : DA := fun δ Q => t δ fun d => ∃ xs, d = .list xs ∧ xs.length ≤ sizeLine ∧ compW g tc te (dst0 k fr δ) xs [] Q
def dCompT (t : DT) (g : DG) (tc : DB) (te : DT) (k : Nat) (fr : List Nat) : DA := fun δ Q => t δ fun d => ∃ xs, d = .tuple xs ∧ xs.length ≤ sizeLine ∧ compW g tc te (dst0 k fr δ) xs [] Q
def dCompR (ta : DA) (g : DG) (tc : DB) (te : DT) (k : Nat) (fr : List Nat) : DA := fun δ Q => ta δ fun ds => ∃ j : Int, ds = [.int j] ∧ -(2 ^ 62) ≤ j ∧ j < sizeLine ∧ compW g tc te (dst0 k fr δ) (rangeD 0 j.toNat) [] Q
def dYes : DB := fun _ Q => Q true
def KeepG (g : TG) (k : Nat) : Prop := ∀ (fr : List Nat) (σ : St) (v : V) (H' : Hp) (R : St → Hp → Prop), g v (st0 k fr σ) H' R → g v (st0 k fr σ) H' fun σ2 H2 => Keep (st0 k fr σ) σ2 ∧ R σ2 H2
theorem keepName : KeepG (gName 0) 1 := fun fr σ v H' R h => ⟨keep_set, h⟩
section
variable {tg iter elt : Expr} {ifs : List Expr} {scope : Scope} {N' : List Str} {k : Nat} {fr : List Nat} {g : TG} {dg : DG} {t : DT} {ta : DA} {tc : DB} {te : DT} {pos p ps : Pos}
end
def dCompI (t : DT) (g : DG) (tc : DB) (te : DT) (k : Nat) (fr : List Nat) : DA := fun δ Q => t δ fun d => ∃ xs, d = .list xs ∧ xs.length ≤ sizeLine ∧ compI g tc te (dst0 k fr δ) xs Q
def dCompTI (t : DT) (g : DG) (tc : DB) (te : DT) (k : Nat) (fr : List Nat) : DA := fun δ Q => t δ fun d => ∃ xs, d = .tuple xs ∧ xs.length ≤ sizeLine ∧ compI g tc te (dst0 k fr δ) xs Q
def dCompRI (ta : DA) (g : DG) (tc : DB) (te : DT) (k : Nat) (fr : List Nat) : DA := fun δ Q => ta δ fun ds => ∃ j : Int, ds = [.int j] ∧ -(2 ^ 62) ≤ j ∧ j < sizeLine ∧ compI g tc te (dst0 k fr δ) (rangeD 0 j.toNat) Q
section
variable {tg iter elt : Expr} {ifs : List Expr} {scope : Scope} {N' : List Str} {k : Nat} {fr : List Nat} {g : TG} {dg : DG} {t : DT} {ta : DA} {tc : DB} {te : DT} {pos p ps : Pos}
theorem fe_compI (hc : X.calm = true) (S : CompScope X.env.scope X.N N' k fr scope) (hi : DF X H0 O0 iter t) (gd : GD X.K g dg) (hk : KeepG g k) (hfr : fr.Nodup)
    (hg : ∀ fp C s H, PG (compCx X scope N' fp C s H) tg g) (hf : ∀ fp C s H, PIfs (compCx X scope N' fp C s H) ifs (upT X.K H0 O0 tc)) (he : ∀ fp C s H, PE (compCx X scope N' fp C s H) elt (up X.K H0 O0 te))
    (hs : ∀ x, foldedSetIterable iter X.env x = pure x := by intro _; rfl) : FE X H0 O0 (.ListComp elt [⟨tg, iter, ifs, 0⟩] scope pos) (dCompI t dg tc te k fr) :=
  (pe_comp hc S (pi_list hi) hg hf he hs).imp fun σ H Q ⟨O, δ, Qd, w, q, kk⟩ => ⟨O, δ, _, w, q, fun d v H1 ⟨xs, e, hz, q1⟩ s1 r1 => by
    subst e
    obtain ⟨a, vs, rfl, hq, rr⟩ := r1.lst
    refine ⟨a, rfl, ⟨_, hq⟩, fun D hD => comp_stepI (SrcP.list hq) gd hfr (fun v _ H' R h => hk fr σ v H' R h) (fun _ _ _ z => z) (fun _ _ _ z => z) (fun D H' hD s' o e => s' _ _ e (ne_of_none e hD)) rr (w.mono s1) (by rw [rr.length]; exact hz) q1 (fun ds us p H' z s' hp r' => kk ds us p H' z (s1.trans s') hp r') D hD⟩⟩
theorem fe_compTI (hc : X.calm = true) (S : CompScope X.env.scope X.N N' k fr scope) (hi : DF X H0 O0 iter t) (gd : GD X.K g dg) (hk : KeepG g k) (hfr : fr.Nodup)
    (hg : ∀ fp C s H, PG (compCx X scope N' fp C s H) tg g) (hf : ∀ fp C s H, PIfs (compCx X scope N' fp C s H) ifs (upT X.K H0 O0 tc)) (he : ∀ fp C s H, PE (compCx X scope N' fp C s H) elt (up X.K H0 O0 te))
    (hs : ∀ x, foldedSetIterable iter X.env x = pure x := by intro _; rfl) : FE X H0 O0 (.ListComp elt [⟨tg, iter, ifs, 0⟩] scope pos) (dCompTI t dg tc te k fr) :=
  (pe_comp hc S (pi_tup hi) hg hf he hs).imp fun σ H Q ⟨O, δ, Qd, w, q, kk⟩ => ⟨O, δ, _, w, q, fun d v H1 ⟨xs, e, hz, q1⟩ s1 r1 => by
    subst e
    obtain ⟨a, vs, rfl, hq, rr⟩ := r1.tup
    refine ⟨a, rfl, ⟨_, hq⟩, fun D hD => comp_stepI (SrcP.tup hq) gd hfr (fun v _ H' R h => hk fr σ v H' R h) (fun _ _ _ z => z) (fun _ _ _ z => z) (fun D H' hD s' o e => s' _ _ e (ne_of_none e hD)) rr (w.mono s1) (by rw [rr.length]; exact hz) q1 (fun ds us p H' z s' hp r' => kk ds us p H' z (s1.trans s') hp r') D hD⟩⟩
theorem fe_compRI (hc : X.calm = true) {a : Expr} (S : CompScope X.env.scope X.N N' k fr scope) (hgl : Gl X "range") (hm : X.mg "range" = none) (ha : PA X [a] (upB X.K H0 O0 ta)) (gd : GD X.K g dg) (hk : KeepG g k) (hfr : fr.Nodup)
    (hg : ∀ fp C s H, PG (compCx X scope N' fp C s H) tg g) (hf : ∀ fp C s H, PIfs (compCx X scope N' fp C s H) ifs (upT X.K H0 O0 tc)) (he : ∀ fp C s H, PE (compCx X scope N' fp C s H) elt (up X.K H0 O0 te))
    (hst : starEach [a] X.env = [(false, eval a X.env)] := by rfl) (hs : ∀ x, foldedSetIterable (.Call (.Name "range" p) [a] [] ps) X.env x = pure x := by intro _; rfl) :
    FE X H0 O0 (.ListComp elt [⟨tg, (.Call (.Name "range" p) [a] [] ps), ifs, 0⟩] scope pos) (dCompRI ta dg tc te k fr) :=
  (pe_comp hc S (pi_range1 hgl hm ha hst) hg hf he hs).imp fun σ H Q ⟨O, δ, Qd, w, q, kk⟩ => ⟨O, δ, _, w, q, fun ds vs H1 ⟨j, e, b1, b2, q1⟩ s1 r1 => by
    subst e
    cases r1 with
    | cons r1 r2 =>
      cases r2
      cases r1.int
      have hb : (sizeLine : Int) < 2 ^ 62 := by decide
      exact ⟨j, rfl, b1, by omega, fun D hD => comp_stepI (P := fun _ => True) SrcP.rng gd hfr (fun v _ H' R h => hk fr σ v H' R h) (fun _ _ _ z => z) (fun _ _ _ z => z) (fun _ _ _ _ => trivial) (Dts.rng _) (w.mono s1) (by rw [List.length_map, List.length_range]; omega) q1 (fun ds us p H' z s' hp r' => kk ds us p H' z (s1.trans s') hp r') D hD⟩⟩
end
end
end L2

namespace L2
open PySem PySem.Spec PyProof.Rows PySem.W
/-! ### what operations do to data -/
section
variable {K : PySem.W.Frag}
def dI (g : Int → Int → PyData) : PyData → PyData → (PyData → Prop) → Prop := fun x y Q => ∃ i j, x = .int i ∧ y = .int j ∧ Q (g i j)
def dIC (C : Int → Int → Prop) (g : Int → Int → PyData) : PyData → PyData → (PyData → Prop) → Prop := fun x y Q => ∃ i j, x = .int i ∧ y = .int j ∧ C i j ∧ Q (g i j)
theorem od_int {g : Int → Int → Int} : OpD K (rI0 fun i j => .int (g i j)) (dI fun i j => .int (g i j)) := fun H O x y dx dy Qd R _ hx hy ⟨i, j, e1, e2, q⟩ k => by
  subst e1 e2; cases hx.int; cases hy.int; exact ⟨i, j, rfl, rfl, k _ _ H q (Same.refl _) (.int _)⟩
theorem od_bl {g : Int → Int → Bool} : OpD K (rI0 fun i j => .bl (g i j)) (dI fun i j => .bool (g i j)) := fun H O x y dx dy Qd R _ hx hy ⟨i, j, e1, e2, q⟩ k => by
  subst e1 e2; cases hx.int; cases hy.int; exact ⟨i, j, rfl, rfl, k _ _ H q (Same.refl _) (.bl _)⟩
theorem od_intC {C : Int → Int → Prop} {g : Int → Int → Int} : OpD K (rI C fun i j => .int (g i j)) (dIC C fun i j => .int (g i j)) := fun H O x y dx dy Qd R _ hx hy ⟨i, j, e1, e2, c, q⟩ k => by
  subst e1 e2; cases hx.int; cases hy.int; exact ⟨i, j, rfl, rfl, c, k _ _ H q (Same.refl _) (.int _)⟩
/-- == and != of data -/
def rEqX (K : PySem.W.Frag) : R2 := fun x y H Q => ∃ O dx dy, Sh K H O x dx ∧ Sh K H O y dy ∧ Shp dx ∧ Shp dy ∧ Q (.bl (PyData.eqv dx dy)) H
def rNeX (K : PySem.W.Frag) : R2 := fun x y H Q => ∃ O dx dy, Sh K H O x dx ∧ Sh K H O y dy ∧ Shp dx ∧ Shp dy ∧ Q (.bl (!PyData.eqv dx dy)) H
theorem op_eqX {X : Cx} (hu : X.A.units + 64 < cLine) : OpR X (compareOp .Eq) (rEqX X.K) := by
  intro pins s σ H x y v u Q I rx ry h
  obtain ⟨O, dx, dy, hx, hy, sx, sy, q⟩ := h
  obtain ⟨as, ra⟩ := dt_reads I hx.all (SeqAt.canLay_of_shaped sx) rx
  obtain ⟨bs, rb⟩ := dt_reads I hy.all (SeqAt.canLay_of_shaped sy) ry
  exact SeqAt.compareEq_shaped ra rb sx sy hu (fin_bl I q rfl)
theorem op_neX {X : Cx} (hu : X.A.units + 64 < cLine) : OpR X (compareOp .NotEq) (rNeX X.K) := by
  intro pins s σ H x y v u Q I rx ry h
  obtain ⟨O, dx, dy, hx, hy, sx, sy, q⟩ := h
  obtain ⟨as, ra⟩ := dt_reads I hx.all (SeqAt.canLay_of_shaped sx) rx
  obtain ⟨bs, rb⟩ := dt_reads I hy.all (SeqAt.canLay_of_shaped sy) ry
  exact SeqAt.compareNe_shaped ra rb sx sy hu (fin_bl I q rfl)
def dEq : PyData → PyData → (PyData → Prop) → Prop := fun x y Q => Shp x ∧ Shp y ∧ Q (.bool (PyData.eqv x y))
def dNe : PyData → PyData → (PyData → Prop) → Prop := fun x y Q => Shp x ∧ Shp y ∧ Q (.bool (!PyData.eqv x y))
theorem od_eq : OpD K (rEqX K) dEq := fun H O x y dx dy Qd R _ hx hy ⟨a, b, q⟩ k => ⟨O, dx, dy, hx, hy, a, b, k _ _ H q (Same.refl _) (.bl _)⟩
theorem od_ne : OpD K (rNeX K) dNe := fun H O x y dx dy Qd R _ hx hy ⟨a, b, q⟩ k => ⟨O, dx, dy, hx, hy, a, b, k _ _ H q (Same.refl _) (.bl _)⟩
/-- a place of a list or a tuple -/
def dIxL : PyData → PyData → (PyData → Prop) → Prop := fun x y Q => ∃ ds i d, x = .list ds ∧ y = .int i ∧ atI ds i = some d ∧ Q d
def dIxT : PyData → PyData → (PyData → Prop) → Prop := fun x y Q => ∃ ds i d, x = .tuple ds ∧ y = .int i ∧ atI ds i = some d ∧ Q d
theorem Dts.atI {H : Hp} {O : Ex} {vs : List V} {ds : List PyData} {i : Int} {d : PyData} (r : Dts K H O vs ds) (e : L2.atI ds i = some d) : ∃ v, L2.atI vs i = some v ∧ Dt K H O v d := by
  unfold L2.atI at e ⊢
  rw [r.length]
  cases q : ixN ds.length i with
  | none => rw [q] at e; cases e
  | some j => rw [q] at e; exact r.getD e
theorem od_ixL : OpD K (rIxL K) dIxL := fun H O x y dx dy Qd R _ hx hy ⟨ds, i, d, e1, e2, e3, q⟩ k => by
  subst e1 e2
  obtain ⟨a, vs, rfl, hs, r⟩ := hx.lst
  cases hy.int
  obtain ⟨v, hv, rv⟩ := r.atI e3
  exact ⟨a, vs, i, v, rfl, rfl, hs, hv, k d v H q (Same.refl _) rv⟩
theorem od_ixT : OpD K (rIxT K) dIxT := fun H O x y dx dy Qd R _ hx hy ⟨ds, i, d, e1, e2, e3, q⟩ k => by
  subst e1 e2
  obtain ⟨a, vs, rfl, hs, r⟩ := hx.tup
  cases hy.int
  obtain ⟨v, hv, rv⟩ := r.atI e3
  exact ⟨a, vs, i, v, rfl, rfl, hs, hv, k d v H q (Same.refl _) rv⟩
end
/-! ### lists: +, slices, list(), len, in, any, all -/
section
variable {X : Cx} {H0 : Hp} {O0 : Ex}
def rCatG : R2 := fun x y H Q => ∃ l b xs zs, x = .ref l ∧ y = .ref b ∧ Rd H l (.lst xs) ∧ Rd H b (.lst zs) ∧ xs.length + zs.length ≤ sizeLine ∧ ∀ p, H p = none → Q (.ref p) (upd H p (.lst (xs ++ zs)))
theorem op_catG : OpR X (binaryOp .Add) rCatG := by
  intro pins s σ H x y v u Q I rx ry h
  obtain ⟨l, b, xs, zs, rfl, rfl, hH, hB, hz, q⟩ := h
  cases rx
  cases ry
  obtain ⟨z, its, n, r, e⟩ := hH.ok I.hok
  obtain ⟨z2, its2, n2, r2, e2⟩ := hB.ok I.hok
  have l1 := r.length
  have l2 := r2.length
  refine PySem.P.add_list e e2 ?_ (by rw [List.size_toArray, List.size_toArray]; omega)
  have ea : its.toArray ++ its2.toArray = (its ++ its2).toArray := by simp
  rw [ea]
  exact ⟨.ref _, _, I.lnew (t' := s.toks) (r.append r2) (by rw [List.length_append]; omega), rfl, q _ I.fresh⟩
def dCat (ta tb : DT) : DA := fun δ Q => ta δ fun x => tb δ fun y => ∃ xs ys, x = .list xs ∧ y = .list ys ∧ xs.length + ys.length ≤ sizeLine ∧ Q (xs ++ ys)
theorem fe_cat {a b : Expr} {ta tb : DT} {pos : Pos} (ha : DF X H0 O0 a ta) (hb : DF X H0 O0 b tb) : FE X H0 O0 (.BinOp a .Add b pos) (dCat ta tb) :=
  (pe_op op_catG ha hb).imp fun σ H Q ⟨O, δ, Qd, w, q, k⟩ => ⟨O, δ, _, w, q, fun x v H1 q1 s1 r1 => ⟨O, δ, _, w.mono s1, q1, fun y u H2 ⟨xs, ys, e1, e2, hz, q2⟩ s2 r2 => by
    subst e1 e2
    obtain ⟨a, vs, rfl, h1, d1⟩ := (r1.mono s2).lstR
    obtain ⟨b, us, rfl, h2, d2⟩ := r2.lstR
    exact ⟨a, b, vs, us, rfl, rfl, h1, h2, by rw [d1.length, d2.length]; exact hz, fun p hp => k _ _ _ _ q2 (s1.trans s2) hp (d1.append d2)⟩⟩⟩
def dCatT : PyData → PyData → (PyData → Prop) → Prop := fun x y Q => ∃ xs ys, x = .tuple xs ∧ y = .tuple ys ∧ xs ≠ [] ∧ xs.length + ys.length ≤ sizeLine ∧ Q (.tuple (xs ++ ys))
theorem od_catT {K : PySem.W.Frag} : OpD K (rCatT K) dCatT := fun H O x y dx dy Qd R tr hx hy ⟨xs, ys, e1, e2, hn, hz, q⟩ k => by
  subst e1 e2
  have hx0 := hx
  obtain ⟨a, vs, rfl, h1, d1⟩ := hx.tup
  obtain ⟨b, us, rfl, h2, d2⟩ := hy.tup
  refine ⟨a, b, vs, us, rfl, rfl, h1, h2, fun z => ?_, by rw [d1.length, d2.length]; exact hz, fun z => ?_, fun _ p hp => ?_⟩
  · subst z; cases d1; exact hn rfl
  · subst z; cases d2
    rw [List.append_nil] at q
    cases hx0 with
    | dt hx0 => exact k _ _ H q (Same.refl _) hx0
  · exact k _ _ _ q (Same.new hp) (.tup (.inl upd_same) (fun z => tr p z hp) ((d1.append d2).mono (Same.new hp)))
def cutD (xs : List PyData) (lo hi : Option Int) : List PyData := (xs.drop (HT.sIx xs.length 0 lo)).take (HT.sIx xs.length xs.length hi - HT.sIx xs.length 0 lo)
theorem Dts.cut {K : PySem.W.Frag} {H : Hp} {O : Ex} {vs : List V} {ds : List PyData} (r : Dts K H O vs ds) (lo hi : Option Int) : Dts K H O (cutV vs lo hi) (cutD ds lo hi) := by
  unfold cutV cutD; rw [r.length]; exact (r.drop _).take _
/-- the bounds of a slice -/
abbrev DO := Dl → (Option Int → Prop) → Prop
def upO (K : PySem.W.Frag) (H0 : Hp) (O0 : Ex) (t : DO) : TO := fun σ H R => ∃ O δ Qd, Wd K H0 O0 H O σ δ ∧ t δ Qd ∧ ∀ d H', Qd d → Same H H' → R d H'
def dNoPart : DO := fun _ Q => Q none
def dPart (t : DT) : DO := fun δ Q => t δ fun d => ∃ i, d = .int i ∧ Q (some i)
theorem PO.imp {X : Cx} {e : Option Expr} {t u : TO} (h : PO X e t) (i : ∀ σ H Q, u σ H Q → t σ H Q) : PO X e u := fun pins s σ H Q I z => h pins s σ H Q I (i σ H Q z)
theorem do_none : PO X none (upO X.K H0 O0 dNoPart) := po_none.imp fun σ H Q ⟨O, δ, Qd, w, q, k⟩ => k none H q (Same.refl _)
theorem do_some {e : Expr} {t : DT} (h : DE X H0 O0 e t) : PO X (some e) (upO X.K H0 O0 (dPart t)) := (po_some h).imp fun σ H Q ⟨O, δ, Qd, w, q, k⟩ => ⟨O, δ, _, w, q, fun d v H1 ⟨i, e, q1⟩ s1 r1 => by subst e; cases r1; exact ⟨i, rfl, k _ H1 q1 s1⟩⟩
def dSlL (t : DT) (tl th : DO) : DA := fun δ Q => t δ fun d => tl δ fun l => th δ fun u => ∃ xs, d = .list xs ∧ Q (cutD xs l u)
def dSlT (t : DT) (tl th : DO) : DT := fun δ Q => t δ fun d => tl δ fun l => th δ fun u => ∃ xs, d = .tuple xs ∧ ¬ (HT.sIx xs.length 0 l = 0 ∧ HT.sIx xs.length xs.length u = xs.length) ∧ Q (.tuple (cutD xs l u))
theorem fe_slice {e : Expr} {lo hi : Option Expr} {t : DT} {tl th : DO} {pos p2 : Pos} (h : DF X H0 O0 e t) (hl : PO X lo (upO X.K H0 O0 tl)) (hu : PO X hi (upO X.K H0 O0 th)) : FE X H0 O0 (.Subscript e (.Slice lo hi none p2) pos) (dSlL t tl th) :=
  (pe_slice sl_list h hl hu).imp fun σ H Q ⟨O, δ, Qd, w, q, k⟩ => ⟨O, δ, _, w, q, fun d v H1 q1 s1 r1 => ⟨O, δ, _, w.mono s1, q1, fun l H2 q2 s2 => ⟨O, δ, _, w.mono (s1.trans s2), q2, fun u H3 ⟨xs, e, q3⟩ s3 => by
    subst e
    obtain ⟨a, vs, rfl, h1, d1⟩ := (r1.mono (s2.trans s3)).lst
    exact ⟨a, vs, rfl, h1, fun p hp => k _ _ _ _ q3 (s1.trans (s2.trans s3)) hp (d1.cut l u)⟩⟩⟩⟩
theorem de_ix {a b : Expr} {ta tb : DT} {r : R2} {rd : PyData → PyData → (PyData → Prop) → Prop} {pos : Pos} (ho : IxR X r) (hd : OpD X.K r rd) (ha : DF X H0 O0 a ta) (hb : DF X H0 O0 b tb) (hs : ∀ v u, subscripted b false v u = operate [v, u] (getItem v u) := by intro _ _; rfl) : DE X H0 O0 (.Subscript a b pos) (dOp rd ta tb) := (pe_ix ho ha hb hs).imp (opd hd)
/-! builtins -/
def dLen : List PyData → (PyData → Prop) → Prop := fun ds Q => ∃ xs, (ds = [.list xs] ∨ ds = [.tuple xs]) ∧ Q (.int xs.length)
def dLenS : List PyData → (PyData → Prop) → Prop := fun ds Q => ∃ xs, ds = [scrD xs] ∧ Q (.int xs.length)
theorem cd_len {K : PySem.W.Frag} : CallD K (fun xs H Q => ∃ p ys, xs = [.ref p] ∧ (SqL K H p ys ∨ SqT K H p ys) ∧ Q (.int ys.length) H) dLen := fun H O xs ds Qd R _ hs ⟨ys, e, q⟩ k => by
  rcases e with e | e <;> subst e
  · cases hs with
    | cons h r =>
      cases r
      obtain ⟨a, vs, rfl, h1, d1⟩ := h.lst
      exact ⟨a, vs, rfl, .inl h1, by rw [d1.length]; exact k _ _ H q (Same.refl _) (.int _)⟩
  · cases hs with
    | cons h r =>
      cases r
      obtain ⟨a, vs, rfl, h1, d1⟩ := h.tup
      exact ⟨a, vs, rfl, .inr h1, by rw [d1.length]; exact k _ _ H q (Same.refl _) (.int _)⟩
theorem cd_lenS {K : PySem.W.Frag} : CallD K (fun xs H Q => ∃ p ys, xs = [.ref p] ∧ (SqL K H p ys ∨ SqT K H p ys) ∧ Q (.int ys.length) H) dLenS := fun H O xs ds Qd R _ hs ⟨ys, e, q⟩ k => by
  subst e
  cases hs with
  | cons h r =>
    cases r
    obtain ⟨a, vs, rfl, h1, d1⟩ := h.scr
    exact ⟨a, vs, rfl, .inl h1, by rw [d1.length]; exact k _ _ H q (Same.refl _) (.int _)⟩
def dTupOf : List PyData → (PyData → Prop) → Prop := fun ds Q => ∃ xs, ds = [.list xs] ∧ Q (.tuple xs)
theorem cd_tupOf {K : PySem.W.Frag} : CallD K (fun xs H Q => ∃ p ys, xs = [.ref p] ∧ ((SqL K H p ys ∧ ∀ l, H l = none → Q (.ref l) (upd H l (.tup ys))) ∨ (SqT K H p ys ∧ Q (.ref p) H))) dTupOf := fun H O xs ds Qd R tr hs ⟨ys, e, q⟩ k => by
  subst e
  cases hs with
  | cons h r =>
    cases r
    obtain ⟨a, vs, rfl, h1, d1⟩ := h.lst
    exact ⟨a, vs, rfl, .inl ⟨h1, fun l hl => k _ _ _ q (Same.new hl) (.tup (.inl upd_same) (fun z => tr l z hl) (d1.mono (Same.new hl)))⟩⟩
theorem Dts.bools {K : PySem.W.Frag} {H : Hp} {O : Ex} : ∀ {bs : List Bool} {vs : List V}, Dts K H O vs (bs.map PyData.bool) → vs = bs.map V.bl
  | [], _, r => by rw [List.map_nil] at r; cases r; rfl
  | b :: bs, _, r => by
    rw [List.map_cons] at r
    cases r with
    | cons h r => cases h; rw [List.map_cons, Dts.bools r]
def dAny (g : List Bool → Bool) : List PyData → (PyData → Prop) → Prop := fun ds Q => ∃ bs : List Bool, ds = [.list (bs.map .bool)] ∧ Q (.bool (g bs))
theorem cd_any {K : PySem.W.Frag} {g : List Bool → Bool} : CallD K (fun xs H Q => ∃ (a : Addr) (bs : List Bool), xs = [.ref a] ∧ SqL K H a (bs.map V.bl) ∧ Q (.bl (g bs)) H) (dAny g) := fun H O xs ds Qd R tr hs ⟨bs, e, q⟩ k => by
  subst e
  cases hs with
  | cons h r =>
    cases r
    obtain ⟨a, vs, rfl, h1, d1⟩ := h.lst
    cases d1.bools
    exact ⟨a, bs, rfl, h1, k _ _ H q (Same.refl _) (.bl _)⟩
def dTwo (g : Int → Int → Int) : List PyData → (PyData → Prop) → Prop := fun ds Q => ∃ i j, ds = [.int i, .int j] ∧ Q (.int (g i j))
theorem cd_two {K : PySem.W.Frag} {g : Int → Int → Int} : CallD K (fun xs H Q => ∃ i j, xs = [.int i, .int j] ∧ Q (.int (g i j)) H) (dTwo g) := fun H O xs ds Qd R tr hs ⟨i, j, e, q⟩ k => by
  subst e
  cases hs with
  | cons h r =>
    cases r with
    | cons h2 r =>
      cases r; cases h.int; cases h2.int
      exact ⟨i, j, rfl, k _ _ H q (Same.refl _) (.int _)⟩
def tyD : PyData → String
  | .none => "NoneType" | .bool _ => "bool" | .int _ => "int" | .str _ => "str" | .list _ => "list" | .tuple _ => "tuple" | .dict _ => "dict"
/-! in -/
def eqS : PyData → PyData → Bool := PyData.eqv
def dIn (neg : Bool) : PyData → PyData → (PyData → Prop) → Prop := fun x y Q => ∃ ds, (y = .list ds ∨ y = .tuple ds) ∧ scalD x = true ∧ ds.all scalD = true ∧ Q (.bool (if neg then !(ds.any fun d => PyData.eqv d x) else ds.any fun d => PyData.eqv d x))
end
section
variable {P : Program} {w : World} {K : PySem.W.Frag} {mg : Str → Option Value} {base : Heap}
def startD (N : List Str) (ds : List PyData) : Dl := ds.map (fun d => some (.v d)) ++ List.replicate (N.length - ds.length) none
theorem wd_start {H : Hp} {O : Ex} {N : List Str} {vs : List V} {ds : List PyData} (tr : ∀ l, O l → H l ≠ none) (r : Dts K H O vs ds) : Wd K H O H O (start N vs) (startD N ds) := by
  have hl := r.length
  have at1 : ∀ (i : Nat) y, (startD N ds)[i]? = some y → (∃ d, ds[i]? = some d ∧ y = some (.v d)) ∨ y = none := fun i y e => by
    unfold startD at e
    by_cases h : i < ds.length
    · rw [List.getElem?_append_left (by simpa using h), List.getElem?_map] at e
      cases q : ds[i]? with
      | none => rw [q] at e; cases e
      | some d => rw [q] at e; exact .inl ⟨d, rfl, (Option.some.inj e).symm⟩
    · rw [List.getElem?_append_right (by simpa using Nat.le_of_not_lt h), List.getElem?_replicate] at e
      split at e
      · exact .inr (Option.some.inj e).symm
      · cases e
  refine ⟨Same.refl _, fun _ z => z, fun _ z => .inl z, tr, by simp [start, startD, hl], fun i y e => ?_, fun i j ds' es l e1 => ?_⟩
  · rcases at1 i y e with ⟨d, hd, rfl⟩ | rfl
    · obtain ⟨v, hv, rv⟩ := r.getD hd
      refine ⟨v, ?_, rv⟩
      unfold start
      rw [List.getElem?_append_left (by simpa using (List.getElem?_eq_some_iff.mp hv).1), List.getElem?_map, hv]; rfl
    · exact True.intro
  · rcases at1 i _ e1 with ⟨d, _, z⟩ | z
    · cases z; intro h; exact h.elim
    · cases z
/-- a def over data -/
theorem Fun.okD {x qual : Str} {st : Stmt} {f : Addr} {fd : FuncData} {N ps : List Str} {k : Nat} {F : List PyData → (PyData → Prop) → Prop} (Fu : Fun K x qual st f fd) (S : FnScope N ps (defScope st)) (len : ∀ ds Q, F ds Q → ds.length = ps.length)
    (hbody : ∀ (cdv : Value) (A : Around) (outer : List Env) (s : Shared) (H : Hp) (O : Ex) (ds : List PyData) (Q : PyData → Prop) (E : XK), Room k (A.deeper (envOfC qual (defScope st) s.heap.objs.size f cdv)) → F ds Q →
      ∃ t, PSs (cxOf CX0 P w K mg base N qual (defScope st) f cdv A outer s H E).nox (defBody st) (upD K H O t) ∧ t { nx := fun _ => Q .none, rt := Q } (startD N ds)) : FnOk P w K mg base CX0 (k + 1) f fd ps (spD K F) := by
  refine Fu.ok S (fun vs H Q E h => ?_) (fun cdv A outer s H vs Q E hr h => ?_)
  · obtain ⟨O, ds, Qd, _, r, q, _⟩ := h
    rw [r.length]; exact len _ _ q
  · obtain ⟨O, ds, Qd, tr, r, q, k⟩ := h
    obtain ⟨t, ht, q'⟩ := hbody cdv A outer s H O ds Qd E hr q
    refine ⟨_, ht, O, _, _, wd_start tr r, q', fun O' δ' σ' H' z w' S' => ?_, fun d v H' z s' r' => k d v H' z s' r', fun _ _ _ _ z => z.elim, fun _ _ _ _ z => z.elim⟩
    exact k _ _ _ z w'.same .non
end
end L2

namespace L2
open PySem PySem.Spec PyProof.Rows PySem.W
section
variable {X : Cx} {H0 : Hp} {O0 : Ex}
theorem pf_nilD : PIfs X [] (upT X.K H0 O0 dYes) := fun pins s σ H Q I h => by
  obtain ⟨O, δ, Qd, w, q, k⟩ := h
  exact pf_nil pins s σ H Q I (k true H q (Same.refl _))
/-! isinstance -/
theorem call_isinX : CallR X (.builtin "isinstance") (fun xs H Q => ∃ O d T b x, xs = [x, .ty T] ∧ Dt X.K H O x d ∧ (∀ x, d ≠ .dict [(.none, x)]) ∧ kitOne X.K (.type (tyD d)) (.type T) = some b ∧ Q (.bl b) H) := by
  intro pins s σ H xs us Q I r h
  obtain ⟨O, d, T, b, x, rfl, hd, hp, hk, q⟩ := h
  obtain ⟨u, w', rfl, rx, rt⟩ := vals2 r
  cases (show w' = Value.type T from rt)
  have fin : ∀ tk, EP X pins σ Q (.bool b) { s with toks := tk } := fun tk => ⟨.bl b, H, I.tok tk, rfl, q⟩
  cases hd with
  | non => cases (show u = Value.none from rx); exact kia_one kitx_none I.kIn True.intro hk (fun z => nomatch z) fin
  | bl y => cases (show u = Value.bool y from rx); exact kia_one kitx_bool I.kIn True.intro hk (fun z => nomatch z) fin
  | int i => obtain ⟨t, e⟩ := (show ∃ t, u = Value.int i t from rx); cases e; exact kia_one kitx_int I.kIn True.intro hk (fun z => nomatch z) fin
  | str y => obtain ⟨t, e⟩ := (show ∃ t, u = Value.str y t from rx); cases e; exact kia_one kitx_str I.kIn True.intro hk (fun z => nomatch z) fin
  | @tup a xs ds h n rr =>
    cases (show u = Value.ref a from rx)
    obtain ⟨its, rv, ⟨o, e, c, _⟩, _⟩ := I.tuple (.inl h)
    exact kia_one kitx_tuple I.kIn ⟨o, e, c⟩ hk (fun z => nomatch z) fin
  | @tupK a xs ds h rr =>
    cases (show u = Value.ref a from rx)
    obtain ⟨its, rv, ⟨o, e, c, _⟩, _⟩ := I.tuple h.of0
    exact kia_one kitx_tuple I.kIn ⟨o, e, c⟩ hk (fun z => nomatch z) fin
  | @lst a xs ds h n rr =>
    cases (show u = Value.ref a from rx)
    obtain ⟨its, rv, ⟨o, _, e, c, _⟩, _⟩ := I.list (.inl h)
    exact kia_one kitx_list I.kIn ⟨o, e, c⟩ hk (fun z => nomatch z) fin
  | pack h n => exact absurd rfl (hp _)
  | scr h r => exact absurd rfl (hp _)
  | @dct0 a h n =>
    cases (show u = Value.ref a from rx)
    obtain ⟨_, _, _, _, o, _, _, e, c, _⟩ := (show ObjOk X.prog X.w H s.heap a (.dK []) from I.hok a _ h)
    exact kia_one kitx_dict I.kIn ⟨o, e, c.1⟩ hk (fun z => nomatch z) fin
  | @dic a kv ks kp ds h e1 e2 n rr =>
    cases (show u = Value.ref a from rx)
    obtain ⟨_, _, _, _, o, _, _, e, c, _⟩ := (show ObjOk X.prog X.w H s.heap a (.dK kv) from I.hok a _ h)
    exact kia_one kitx_dict I.kIn ⟨o, e, c.1⟩ hk (fun z => nomatch z) fin
def dIsin (K : PySem.W.Frag) (T : String) (t : DT) : DT := fun δ Q => t δ fun d => ∃ b, kitOne K (.type (tyD d)) (.type T) = some b ∧ (∀ x, d ≠ .dict [(.none, x)]) ∧ Q (.bool b)
theorem de_isin {T : String} {a c : Expr} {t : DT} {np p : Pos} (hg : Gl X "isinstance") (hm : X.mg "isinstance" = none) (hv : bootBuiltins "isinstance" = some (.builtin "isinstance")) (ha : DF X H0 O0 a t) (hc : PE X c (tC (.ty T)))
    (hs : starEach [a, c] X.env = (false, eval a X.env) :: starEach [c] X.env := by rfl) (hs2 : starEach [c] X.env = [(false, eval c X.env)] := by rfl) (hb : (backTo p (starEach [c] X.env)).any (·.1) = false := by rfl) : DE X H0 O0 (.Call (.Name "isinstance" np) [a, c] [] p) (dIsin X.K T t) :=
  (pe_callB call_isinX hg hm hv (pa_cons ha (pa_cons hc pa_nil hs2) hs) (he := hs) (hpl := hb)).imp fun σ H Q ⟨O, δ, Qd, w, q, k⟩ => ⟨O, δ, _, w, q, fun d v H1 ⟨b, e, hp, q1⟩ s1 r1 => ⟨fun _ => False, d, T, b, v, rfl, r1.all, hp, e, k _ _ H1 q1 s1 (.bl b)⟩⟩
/-! texts -/
def dAddS : PyData → PyData → (PyData → Prop) → Prop := fun x y Q => ∃ i j, x = .str i ∧ y = .str j ∧ i.length + j.length ≤ sizeLine ∧ Q (.str (i ++ j))
theorem od_addS {K : PySem.W.Frag} : OpD K (fun x y H Q => ∃ i j, x = .str i ∧ y = .str j ∧ i.length + j.length ≤ sizeLine ∧ Q (.str (i ++ j)) H) dAddS := fun H O x y dx dy Qd R tr hx hy ⟨i, j, e1, e2, hz, q⟩ k => by
  subst e1 e2; cases hx.str; cases hy.str; exact ⟨i, j, rfl, rfl, hz, k _ _ H q (Same.refl _) (.str _)⟩
def dIxS : PyData → PyData → (PyData → Prop) → Prop := fun x y Q => ∃ z i c, x = .str z ∧ y = .int i ∧ z.length ≤ sizeLine ∧ atI z.cps.toList i = some c ∧ Q (.str ⟨#[c]⟩)
theorem od_ixS {K : PySem.W.Frag} : OpD K rIxS dIxS := fun H O x y dx dy Qd R tr hx hy ⟨z, i, c, e1, e2, hz, e3, q⟩ k => by
  subst e1 e2; cases hx.str; cases hy.int; exact ⟨z, i, c, rfl, rfl, hz, e3, k _ _ H q (Same.refl _) (.str _)⟩
def rSlS : V → Option Int → Option Int → Hp → VK → Prop := fun x lo hi H Q => ∃ z, x = .str z ∧ z.length ≤ sizeLine ∧ Q (.str (Txt.slice z lo hi)) H
def dSlS (t : DT) (tl th : DO) : DT := fun δ Q => t δ fun d => tl δ fun l => th δ fun u => ∃ z, d = .str z ∧ z.length ≤ sizeLine ∧ Q (.str (Txt.slice z l u))
def dJoin (to : DT) (t : DT) : DT := fun δ Q => to δ fun x => ∃ z : Str, x = .str z ∧ t δ fun y => ∃ (ys : List Str), y = .list (ys.map .str) ∧ (ys.map (·.length)).sum + ys.length * z.length ≤ 16777216 ∧ Q (.str (Txt.join z ys))
/-! more calls -/
def dInt : List PyData → (PyData → Prop) → Prop := fun ds Q => (∃ i, ds = [.int i] ∧ Q (.int i)) ∨ ∃ b, ds = [.bool b] ∧ Q (.int (if b then 1 else 0))
theorem cd_int {K : PySem.W.Frag} : CallD K (fun xs H Q => (∃ i, xs = [.int i] ∧ Q (.int i) H) ∨ ∃ k, xs = [.bl k] ∧ Q (.int (if k then 1 else 0)) H) dInt := fun H O xs ds Qd R tr hs h k => by
  rcases h with ⟨i, e, q⟩ | ⟨b, e, q⟩ <;> subst e
  · cases hs with
    | cons h r => cases r; cases h.int; exact .inl ⟨i, rfl, k _ _ H q (Same.refl _) (.int _)⟩
  · cases hs with
    | cons h r => cases r; cases h.bl; exact .inr ⟨b, rfl, k _ _ H q (Same.refl _) (.int _)⟩
def dListOf (t : DA) : DA := fun δ Q => t δ fun ds => ∃ xs, (ds = [.list xs] ∨ ds = [.tuple xs]) ∧ Q xs
theorem fe_listOf {a : Expr} {t : DA} {np p : Pos} (hg : Gl X "list") (hm : X.mg "list" = none) (hv : bootBuiltins "list" = some (.type "list")) (ha : PA X [a] (upB X.K H0 O0 t)) (he : starEach [a] X.env = (false, eval a X.env) :: starEach [] X.env := by rfl) (hpl : (backTo p (starEach [] X.env)).any (·.1) = false := by rfl) : FE X H0 O0 (.Call (.Name "list" np) [a] [] p) (dListOf t) :=
  (pe_callTy call_list_of hg hm hv ha (he := he) (hpl := hpl)).imp fun σ H Q ⟨O, δ, Qd, w, q, k⟩ => ⟨O, δ, _, w, q, fun ds vs H1 ⟨xs, e, q1⟩ s1 r1 => by
    rcases e with e | e <;> subst e
    · cases r1 with
      | cons h r =>
        cases r
        obtain ⟨a, us, rfl, h1, d1⟩ := h.lst
        exact ⟨a, us, rfl, .inl h1, fun l hl => k _ _ _ _ q1 s1 hl d1⟩
    · cases r1 with
      | cons h r =>
        cases r
        obtain ⟨a, us, rfl, h1, d1⟩ := h.tup
        exact ⟨a, us, rfl, .inr h1, fun l hl => k _ _ _ _ q1 s1 hl d1⟩⟩
theorem vals_rev {xs : List V} {us : List Value} (r : Vals xs us) : Vals xs.reverse us.reverse := by
  induction r with
  | nil => exact .nil
  | cons h r ih => rw [List.reverse_cons, List.reverse_cons]; exact ih.append (.cons h .nil)
/-! xs[::-1] -/
def dRev (t : DT) : DA := fun δ Q => t δ fun d => ∃ xs, d = .list xs ∧ Q xs.reverse
end
end L2

namespace L2
open PySem PySem.Spec PyProof.Rows PySem.W
section
variable {X : Cx} {pins : List (Addr × Obj)} {σ : St} {H : Hp} {s : Shared}
theorem Inv.swap {p : Addr} {o' : HO} (I : Inv X pins σ H s) (mu : Mut (H p)) (new : ObjOk X.prog X.w (upd H p o') s.heap p o') : Inv X pins σ (upd H p o') s := by
  have hp : ∃ o, H p = some o := by
    cases e : H p with
    | none => rw [e] at mu; exact mu.elim
    | some o => exact ⟨o, rfl⟩
  obtain ⟨o, ho⟩ := hp
  have nn : ∀ {b : Addr}, H b = none → b ≠ p := fun hb z => by rw [z, ho] at hb; cases hb
  have nt : ∀ {b : Addr} {xs : List V}, H b = some (.tup xs) → b ≠ p := fun hb z => by rw [z] at hb; rw [hb] at mu; exact mu
  have nw : ∀ {b y : Addr}, H b = some (.own y) → b ≠ p := fun hb z => by rw [z] at hb; rw [hb] at mu; exact mu
  have nf : ∀ {b : Addr} {ob : Obj} {u : HO}, H b = some (.frz ob u) → b ≠ p := fun hb z => by rw [z] at hb; rw [hb] at mu; exact mu
  have nb : ∀ {b : Addr} {ps : Array Value}, H b = some (.tbl ps) → b ≠ p := fun hb z => by rw [z] at hb; rw [hb] at mu; exact mu
  have ub := I.base
  refine ⟨I.ok, I.os, I.bare, ⟨ub.keep, ub.slot, fun b ob e n hx => ?_, ub.there, fun b xs z => ?_, fun b ob u z => ?_, fun b ps z => ?_⟩, I.loc, I.cell, ?_, fun x c e => ?_, fun q hq => ?_, fun b u e => ?_, I.len⟩
  · have := ub.free b ob e n hx; rw [upd_ne (nn this)]; exact this
  · have := ub.tups b xs z; rw [upd_ne (nt this)]; exact this
  · have := ub.frzs b ob u z; rw [upd_ne (nf this)]; exact this
  · obtain ⟨m, this⟩ := ub.tbls b ps z; exact ⟨m, by rw [upd_ne (nb this)]; exact this⟩
  · rw [upd_ne (nn I.free)]; exact I.free
  · have := I.freeC x c e; rw [upd_ne (nn this)]; exact this
  · obtain ⟨a, b, c⟩ := I.pin q hq
    exact ⟨a, by rw [upd_ne (nn b)]; exact b, c⟩
  · by_cases hb : b = p
    · subst hb; rw [upd_same] at e; cases e; exact new
    · rw [upd_ne hb] at e
      exact (I.hok b u e).stay (fun _ _ _ q => q) (fun c z => by rw [upd_ne (nw z)]; exact z) fun c xs z => by rw [upd_ne (nt z)]; exact z
theorem Inv.open {p : Addr} (I : Inv X pins σ H s) (e : H p = some (packO p)) : ∃ n, Inv X pins σ (upd H p (.lst [.int n])) s := by
  obtain ⟨⟨n, t, k, h⟩, _, _⟩ := (show ObjOk X.prog X.w H s.heap p (packO p) from I.hok p _ e)
  exact ⟨n, I.swap (by rw [e]; exact True.intro) ⟨(show 1 ≤ sizeLine by decide), [.int n t], k, .cons ⟨t, rfl⟩ .nil, h⟩⟩
theorem Inv.shut {p : Addr} {n : Int} (I : Inv X pins σ H s) (e : H p = some (.lst [.int n])) : Inv X pins σ (upd H p (packO p)) s := by
  obtain ⟨_, its, k, r, h⟩ := (show ObjOk X.prog X.w H s.heap p (.lst [.int n]) from I.hok p _ e)
  cases r with
  | cons r1 r2 =>
    cases r2
    obtain ⟨t, rfl⟩ := r1
    refine I.swap (by rw [e]; exact True.intro) ⟨⟨n, t, k, h⟩, ⟨_, h⟩, fun h1 h2 ⟨n, t, k, z⟩ kk => ⟨n, t, k, kk _ z⟩⟩
/-- a body that works at one pack: it is open there, and shut behind -/
theorem PSs.pack {st : List Stmt} {t : TS} (h : PSs X st t) : PSs X st (fun D σ H => ∃ p, H p = some (packO p) ∧ ∀ n, t { nx := fun σ' H' => ∃ n', H' p = some (.lst [.int n']) ∧ D.nx σ' (upd H' p (packO p)), rt := fun v H' => ∃ n', H' p = some (.lst [.int n']) ∧ D.rt v (upd H' p (packO p)) } σ (upd H p (.lst [.int n]))) := by
  intro pins s σ H D I ⟨p, e, q⟩
  obtain ⟨n, I1⟩ := I.open e
  refine thn (h pins s σ _ _ I1 (q n)) fun f s1 z => ?_
  cases f with
  | next => obtain ⟨σ', H', J, n', e', q'⟩ := z; exact ⟨σ', _, J.shut e', q'⟩
  | ret u => obtain ⟨v, σ', H', J, r, n', e', q'⟩ := z; exact ⟨v, σ', _, J.shut e', r, q'⟩
  | brk => obtain ⟨_, _, _, z⟩ := z; exact z.elim
  | cont => obtain ⟨_, _, _, z⟩ := z; exact z.elim
end
/-- what a draw tells: any digit below the size -/
def F_take : List PyData → (PyData → Prop) → Prop := fun ds Q => ∃ z : Int, ds = [packD, .int z] ∧ 0 < z ∧ z ≤ 1000000 ∧ ∀ i : Int, 0 ≤ i → i < z → Q (.int i)
/-- a pack of a script's cell -/
def F_pack : List PyData → (PyData → Prop) → Prop := fun ds Q => ∃ (ns : List Int) (i : Int), ds = [scrD (ns.map .int), .int i] ∧ (∀ z ∈ ns, Builtin.Int.intBits z ≤ 1048576) ∧ 0 ≤ i ∧ i ≤ 64 ∧ Q packD
theorem atI_c0 {α : Type} {a : α} {l : List α} : atI (a :: l) 0 = some a := atI_nat (j := 0) rfl
theorem atI_c1 {α : Type} {a b : α} {l : List α} : atI (a :: b :: l) 1 = some b := atI_nat (j := 1) rfl
theorem atI_c2 {α : Type} {a b c : α} {l : List α} : atI (a :: b :: c :: l) 2 = some c := atI_nat (j := 2) rfl
theorem atI_c3 {α : Type} {a b c d : α} {l : List α} : atI (a :: b :: c :: d :: l) 3 = some d := atI_nat (j := 3) rfl
theorem atI_c4 {α : Type} {a b c d e : α} {l : List α} : atI (a :: b :: c :: d :: e :: l) 4 = some e := atI_nat (j := 4) rfl
theorem shp_int {i : Int} : Shp (.int i) := rfl
theorem shp_bl {i : Bool} : Shp (.bool i) := rfl
theorem shp_non : Shp .none := rfl
theorem eqv_str {x y : Str} : PyData.eqv (.str x) (.str y) = (x == y) := by simp [PyData.eqv]
theorem eqv_int {x y : Int} : PyData.eqv (.int x) (.int y) = (x == y) := by simp [PyData.eqv]
theorem eqv_bool {x y : Bool} : PyData.eqv (.bool x) (.bool y) = (x == y) := by simp [PyData.eqv]
theorem shp_str {x : Str} : Shp (.str x) ↔ PyData.strOk x = true := by
  unfold Shp SeqAt.shaped
  simp [PyData.canLay0, PyData.depth]
theorem sIx_none {n d : Nat} : HT.sIx n d none = d := rfl
theorem sIx_in {n d : Nat} {i : Int} (h0 : 0 ≤ i) (h1 : i ≤ n) : HT.sIx n d (some i) = i.toNat := by
  obtain ⟨j, rfl⟩ := Int.eq_ofNat_of_zero_le h0
  rw [HT.sIx_nat, Int.toNat_natCast]
  omega
theorem cutD_take {xs : List PyData} {i : Int} (h0 : 0 ≤ i) (h1 : i ≤ xs.length) : cutD xs none (some i) = xs.take i.toNat := by
  unfold cutD; rw [sIx_none, sIx_in h0 h1]; simp
theorem cutD_drop {xs : List PyData} {i : Int} (h0 : 0 ≤ i) (h1 : i ≤ xs.length) : cutD xs (some i) none = xs.drop i.toNat := by
  unfold cutD; rw [sIx_none, sIx_in h0 h1, List.take_of_length_le (by rw [List.length_drop]; exact Nat.le_refl _)]
theorem rangeD_at {lo : Int} {n i : Nat} {x : PyData} (h : (rangeD lo n)[i]? = some x) : i < n ∧ x = .int (lo + i) := by
  unfold rangeD at h
  rw [List.getElem?_map] at h
  by_cases hi : i < n
  · rw [List.getElem?_range hi] at h; exact ⟨hi, (Option.some.inj h).symm⟩
  · rw [List.getElem?_eq_none (by simpa using hi)] at h; cases h
theorem rangeD_len {lo : Int} {n : Nat} : (rangeD lo n).length = n := by unfold rangeD; simp
end L2


namespace L2
open PySem PySem.Spec PyProof.Rows

/-! ### lists of pairs as tables -/
section
variable {κ : Type} [DecidableEq κ]
def valV (kvs : List (κ × V)) (k : κ) : Option V := (kvs.find? fun kv => decide (kv.1 = k)).map (·.2)
/-- in its place, or at the end -/
def putK (kvs : List (κ × V)) (k : κ) (v : V) : List (κ × V) :=
  if (kvs.any fun kv => decide (kv.1 = k)) = true then kvs.map (fun kv => if kv.1 = k then (kv.1, v) else kv) else kvs ++ [(k, v)]
def dropK (kvs : List (κ × V)) (k : κ) : List (κ × V) := kvs.filter fun kv => decide (kv.1 ≠ k)

theorem valV_pos {p : κ × V} {r : List (κ × V)} {k : κ} (e : p.1 = k) : valV (p :: r) k = some p.2 := by simp [valV, List.find?_cons, e]
theorem valV_neg {p : κ × V} {r : List (κ × V)} {k : κ} (e : ¬ p.1 = k) : valV (p :: r) k = valV r k := by simp [valV, List.find?_cons, e]
theorem valV_any (k : κ) : ∀ kvs : List (κ × V), (kvs.any fun kv => decide (kv.1 = k)) = (valV kvs k).isSome
  | [] => rfl
  | p :: r => by
    rw [List.any_cons]
    by_cases e : p.1 = k
    · simp only [valV_pos e, decide_eq_true e, Bool.true_or, Option.isSome_some]
    · rw [valV_neg e, decide_eq_false e, Bool.false_or]; exact valV_any k r
theorem length_putK (kvs : List (κ × V)) (k : κ) (v : V) : (putK kvs k v).length ≤ kvs.length + 1 := by
  unfold putK
  split
  · rw [List.length_map]; omega
  · rw [List.length_append, List.length_cons, List.length_nil]; omega
theorem RelO.isSome_eq {o : Option V} {u : Option Value} (r : RelO o u) : o.isSome = u.isSome := by
  cases o with
  | none => cases u with
    | none => rfl
    | some _ => exact (show False from r).elim
  | some _ => cases u with
    | none => exact (show False from r).elim
    | some _ => rfl
theorem RelO.getD {o : Option V} {u : Option Value} {d : V} {d' : Value} (r : RelO o u) (rd : RelV d d') : RelV (o.getD d) (u.getD d') := by
  cases o with
  | none => cases u with
    | none => exact rd
    | some _ => exact (show False from r).elim
  | some _ => cases u with
    | none => exact (show False from r).elim
    | some _ => exact r

/-- raw tables of the same keys -/
theorem KV.val {kvs : List (κ × V)} {vs : List (κ × Value)} (r : KV kvs vs) (k : κ) : RelO (valV kvs k) (valueAt vs k) := by
  unfold KV at r
  induction r with
  | nil => exact True.intro
  | @cons p q ps qs h t ih =>
    obtain ⟨h1, h2⟩ := h
    by_cases e : p.1 = k
    · have e' : q.1 = k := h1.symm.trans e
      have b : valueAt (q :: qs) k = some q.2 := by simp [valueAt, List.find?_cons, e']
      rw [valV_pos e, b]; exact h2
    · have e' : ¬ q.1 = k := fun z => e (h1.trans z)
      have b : valueAt (q :: qs) k = valueAt qs k := by simp [valueAt, List.find?_cons, e']
      rw [valV_neg e, b]; exact ih
theorem KV.any {kvs : List (κ × V)} {vs : List (κ × Value)} (r : KV kvs vs) (k : κ) : (kvs.any fun kv => decide (kv.1 = k)) = vs.any fun kv => decide (kv.1 = k) := by
  unfold KV at r
  induction r with
  | nil => rfl
  | cons h t ih => rw [List.any_cons, List.any_cons, ih, h.1]
theorem KV.repl {kvs : List (κ × V)} {vs : List (κ × Value)} (r : KV kvs vs) (k : κ) {y : V} {u : Value} (ry : RelV y u) :
    KV (kvs.map fun kv => if kv.1 = k then (kv.1, y) else kv) (vs.map fun kv => if kv.1 = k then (kv.1, u) else kv) := by
  unfold KV at r ⊢
  induction r with
  | nil => exact .nil
  | @cons p q ps qs h t ih =>
    rw [List.map_cons, List.map_cons]
    refine .cons ?_ ih
    obtain ⟨h1, h2⟩ := h
    by_cases e : p.1 = k
    · rw [if_pos e, if_pos (h1.symm.trans e)]; exact ⟨h1, ry⟩
    · rw [if_neg e, if_neg (fun z => e (h1.trans z))]; exact ⟨h1, h2⟩
theorem KV.put {kvs : List (κ × V)} {vs : List (κ × Value)} (r : KV kvs vs) (k : κ) {y : V} {u : Value} (ry : RelV y u) : KV (putK kvs k y) (stored vs k u) := by
  unfold putK stored
  rw [r.any k]
  by_cases e : (vs.any fun kv => decide (kv.1 = k)) = true
  · rw [if_pos e, if_pos e]; exact r.repl k ry
  · rw [if_neg e, if_neg e]; exact Paired.snoc r ⟨rfl, ry⟩
theorem KV.drop {kvs : List (κ × V)} {vs : List (κ × Value)} (r : KV kvs vs) (k : κ) : KV (dropK kvs k) (without vs k) := by
  unfold KV at r ⊢
  unfold dropK without
  induction r with
  | nil => exact .nil
  | @cons p q ps qs h t ih =>
    obtain ⟨h1, h2⟩ := h
    rw [List.filter_cons, List.filter_cons]
    by_cases e : p.1 = k
    · have a : ¬ decide (p.1 ≠ k) = true := by simp [e]
      have b : ¬ decide (q.1 ≠ k) = true := by simp [h1.symm.trans e]
      rw [if_neg a, if_neg b]; exact ih
    · have e' : ¬ q.1 = k := fun z => e (h1.trans z)
      have a : decide (p.1 ≠ k) = true := by simp [e]
      have b : decide (q.1 ≠ k) = true := by simp [e']
      rw [if_pos a, if_pos b]; exact .cons ⟨h1, h2⟩ ih
theorem KV.keys {kvs : List (κ × V)} {vs : List (κ × Value)} (r : KV kvs vs) : kvs.map (·.1) = vs.map (·.1) := by
  unfold KV at r
  induction r with
  | nil => rfl
  | cons h t ih => rw [List.map_cons, List.map_cons, ih, h.1]
theorem KV.length {kvs : List (κ × V)} {vs : List (κ × Value)} (r : KV kvs vs) : kvs.length = vs.length := Paired.length r
end


/-! ### a tracked dict, its keys ints and texts or tuples of these -/
theorem kV_is {P : Program} {w : World} {k : Key} {u : Value} (r : RelV (kV k) u) : (mixKind P w).is k u = true := by
  cases k with
  | inl i => obtain ⟨t, e⟩ := (show ∃ t, u = Value.int i t from r); subst e; exact mixKind_int P w i t
  | inr x => obtain ⟨t, e⟩ := (show ∃ t, u = Value.str x t from r); subst e; exact mixKind_str P w x t
theorem items_are {P : Program} {w : World} : ∀ {ks : List Key} {us : List Value}, Vals (ks.map kV) us → ItemsAre (mixKind P w) ks us
  | [], _, r => by rw [List.map_nil] at r; cases r; exact .nil
  | k :: ks, _, r => by
    rw [List.map_cons] at r
    cases r with
    | cons h t => exact .cons (kV_is h) (items_are t)

/-- raw entries of a dict with tuple keys -/
abbrev KT (H : Hp) : List (List Key × V) → List (List Key × Addr × Value) → Prop := Paired fun p q => p.1 = q.1 ∧ H q.2.1 = some (.tup (p.1.map kV)) ∧ RelV p.2 q.2.2
theorem KT.val {H : Hp} {kvs : List (List Key × V)} {xs : List (List Key × Addr × Value)} (r : KT H kvs xs) (k : List Key) : RelO (valV kvs k) ((atKey xs k).map (·.2)) := by
  induction r with
  | nil => exact True.intro
  | @cons p q ps qs h t ih =>
    obtain ⟨h1, _, h2⟩ := h
    by_cases e : p.1 = k
    · have e' : q.1 = k := h1.symm.trans e
      have b : atKey (q :: qs) k = some q.2 := by simp [atKey, List.find?_cons, e']
      rw [valV_pos e, b]; exact h2
    · have e' : ¬ q.1 = k := fun z => e (h1.trans z)
      have b : atKey (q :: qs) k = atKey qs k := by simp [atKey, List.find?_cons, e']
      rw [valV_neg e, b]; exact ih
theorem KT.repl {H : Hp} {kvs : List (List Key × V)} {xs : List (List Key × Addr × Value)} (r : KT H kvs xs) (k : List Key) {y : V} {u : Value} (ry : RelV y u) :
    KT H (kvs.map fun kv => if kv.1 = k then (kv.1, y) else kv) (xs.map (putAt k u)) := by
  induction r with
  | nil => exact .nil
  | @cons p q ps qs h t ih =>
    rw [List.map_cons, List.map_cons]
    refine .cons ?_ ih
    obtain ⟨h1, h2, h3⟩ := h
    unfold putAt
    by_cases e : p.1 = k
    · rw [if_pos e, if_pos (h1.symm.trans e)]; exact ⟨h1, h2, ry⟩
    · rw [if_neg e, if_neg (fun z => e (h1.trans z))]; exact ⟨h1, h2, h3⟩
theorem KT.put {H : Hp} {kvs : List (List Key × V)} {xs : List (List Key × Addr × Value)} (r : KT H kvs xs) (k : List Key) {b : Addr} {y : V} {u : Value} (hb : H b = some (.tup (k.map kV))) (ry : RelV y u) :
    KT H (putK kvs k y) (storedH xs k b u) := by
  have e : (kvs.any fun kv => decide (kv.1 = k)) = (atKey xs k).isSome := by
    rw [valV_any, (r.val k).isSome_eq, Option.isSome_map]
  unfold putK storedH
  rw [e]
  by_cases q : (atKey xs k).isSome = true
  · rw [if_pos q, if_pos q]; exact r.repl k ry
  · rw [if_neg q, if_neg q]; exact Paired.snoc r ⟨rfl, hb, ry⟩
theorem KT.keeps {H H' : Hp} {kvs : List (List Key × V)} {xs : List (List Key × Addr × Value)} (r : KT H kvs xs) (ht : ∀ b ys, H b = some (.tup ys) → H' b = some (.tup ys)) : KT H' kvs xs :=
  Paired.mapP r fun _ _ z => ⟨z.1, ht _ _ z.2.1, z.2.2⟩

section
variable {P : Program} {w : World} {H : Hp} {h : Heap} {a : Addr}
theorem rd_of {u : HO} (ok : HOk P w H h) (e : Rd H a u) : ObjOk P w H h a u := e.ok ok
theorem dk_rd {kvs : List (Key × V)} (ok : HOk P w H h) (e : Rd H a (.dK kvs)) : kvs.length ≤ sizeLine ∧ (a == sysModules) = false ∧ ∃ vs, KV kvs vs ∧ h.DictOf (mixKind P w) a vs :=
  show ObjOk P w H h a (.dK kvs) from rd_of ok e
theorem dk_of {kvs : List (Key × V)} (ok : HOk P w H h) (e : H a = some (.dK kvs)) : kvs.length ≤ sizeLine ∧ (a == sysModules) = false ∧ ∃ vs, KV kvs vs ∧ h.DictOf (mixKind P w) a vs := dk_rd ok (.inl e)
/-- a tracked tuple of ints and texts is a key -/
theorem key_of {ks : List Key} (ok : HOk P w H h) (e : H a = some (.tup (ks.map kV))) : (tupleKind (mixKind P w)).is h ks a := by
  obtain ⟨_, its, r, o, h1, h2, n, h3⟩ := (show ObjOk P w H h a (.tup (ks.map kV)) from ok a _ e)
  exact ⟨o, its.toArray, n, h1, h2, h3, by simpa using items_are r⟩
theorem dt_rd {kvs : List (List Key × V)} (ok : HOk P w H h) (e : Rd H a (.dT kvs)) : kvs.length ≤ sizeLine ∧ (a == sysModules) = false ∧
    ∃ xs, KT H kvs xs ∧ h.DictOfH (tupleKind (mixKind P w)) a xs := by
  obtain ⟨z, y, xs, r, o, es, ep, h1, h2, h3, h4, h5⟩ := (show ObjOk P w H h a (.dT kvs) from rd_of ok e)
  refine ⟨z, y, xs, r, o, es, ep, h1, h2, h3, h4, fun x hx => ?_, h5⟩
  have all : ∀ {l : List (List Key × V)} {m : List (List Key × Addr × Value)}, KT H l m → ∀ x ∈ m, (tupleKind (mixKind P w)).is h x.1 x.2.1 := by
    intro l m q
    induction q with
    | nil => intro x hx; exact nomatch hx
    | @cons p q ps qs hq t ih =>
      intro x hx
      rcases List.mem_cons.mp hx with e | hx
      · subst e
        exact key_of ok (by rw [← hq.1]; exact hq.2.1)
      · exact ih x hx
  exact all r x hx
theorem dt_of {kvs : List (List Key × V)} (ok : HOk P w H h) (e : H a = some (.dT kvs)) : kvs.length ≤ sizeLine ∧ (a == sysModules) = false ∧
    ∃ xs, KT H kvs xs ∧ h.DictOfH (tupleKind (mixKind P w)) a xs := dt_rd ok (.inl e)
end

/-- what the dict at a holds at the key y -/
def DGet (H : Hp) (a : Addr) (y : V) (r : Option V) : Prop :=
  (∃ kvs k, Rd H a (.dK kvs) ∧ y = kV k ∧ r = valV kvs k) ∨ ∃ kvs k b, Rd H a (.dT kvs) ∧ y = .ref b ∧ H b = some (.tup (k.map kV)) ∧ r = valV kvs k
/-- the heap behind a[y] = v -/
def DPut (H : Hp) (a : Addr) (y v : V) (H' : Hp) : Prop :=
  (∃ kvs k, H a = some (.dK kvs) ∧ y = kV k ∧ kvs.length < sizeLine ∧ H' = upd H a (.dK (putK kvs k v))) ∨
  ∃ kvs k b, H a = some (.dT kvs) ∧ y = .ref b ∧ H b = some (.tup (k.map kV)) ∧ kvs.length < sizeLine ∧ H' = upd H a (.dT (putK kvs k v))
theorem DGet.k {H : Hp} {a : Addr} {kvs : List (Key × V)} {k : Key} (e : H a = some (.dK kvs)) : DGet H a (kV k) (valV kvs k) := .inl ⟨kvs, k, .inl e, rfl, rfl⟩
theorem DGet.t {H : Hp} {a b : Addr} {kvs : List (List Key × V)} {k : List Key} (e : H a = some (.dT kvs)) (eb : H b = some (.tup (k.map kV))) : DGet H a (.ref b) (valV kvs k) := .inr ⟨kvs, k, b, .inl e, rfl, eb, rfl⟩
theorem DPut.k {H : Hp} {a : Addr} {kvs : List (Key × V)} {k : Key} {v : V} (e : H a = some (.dK kvs)) (hl : kvs.length < sizeLine) : DPut H a (kV k) v (upd H a (.dK (putK kvs k v))) := .inl ⟨kvs, k, e, rfl, hl, rfl⟩
theorem DPut.t {H : Hp} {a b : Addr} {kvs : List (List Key × V)} {k : List Key} {v : V} (e : H a = some (.dT kvs)) (eb : H b = some (.tup (k.map kV))) (hl : kvs.length < sizeLine) :
    DPut H a (.ref b) v (upd H a (.dT (putK kvs k v))) := .inr ⟨kvs, k, b, e, rfl, eb, hl, rfl⟩


section
variable {X : Cx} {pins : List (Addr × Obj)} {σ : St} {H : Hp} {s : Shared} {a : Addr} {y v : V} {u r : Value} {o : Option V} {A : Around} {E : Value → Shared → Prop}

theorem Inv.big (I : Inv X pins σ H s) : sysModules < s.heap.objs.size := by
  have h : mainGlobals < s.heap.objs.size := (I.mod.glob.keeps I.bk).lt
  exact Nat.lt_trans (by decide) h

/-- d[y], there -/
theorem d_getItem {Q : Value → Shared → Prop} (hu : A.units + 1 < cLine) (I : Inv X pins σ H s) (g : DGet H a y (some v)) (ry : RelV y u) (h : ∀ w' s', Inv X pins σ H s' → RelV v w' → Q w' s') :
    wpAny (model X.prog X.w) A (getItem (.ref a) u) Q E s := by
  rcases g with ⟨kvs, k, e, ey, l⟩ | ⟨kvs, k, b, e, ey, eb, l⟩
  · subst ey
    obtain ⟨z, hd, vs, rel, dd⟩ := dk_rd I.hok e
    obtain ⟨w', hw, rw'⟩ := RelO.some_of (v := v) (o := valueAt vs k) (by rw [l]; exact rel.val k)
    exact wpAny_getItem_of (kV_is ry) dd.mapOf hw (h w' _ (I.tok _) rw')
  · subst ey
    cases (show u = Value.ref b from ry)
    obtain ⟨z, hd, xs, rel, dd⟩ := dt_rd I.hok e
    obtain ⟨w', hw, rw'⟩ := RelO.some_of (v := v) (o := (atKey xs k).map (·.2)) (by rw [l]; exact rel.val k)
    obtain ⟨p, hp, hp2⟩ := Option.map_eq_some_iff.mp hw
    refine wpAny_getItem_heap (tupleKind_room_in1 hu) (key_of I.hok eb) dd hp ?_
    rw [hp2]
    exact h w' _ (I.tok _) rw'
/-- y in d -/
theorem d_in {Q : Value → Shared → Prop} (hu : A.units + 1 < cLine) (I : Inv X pins σ H s) (g : DGet H a y o) (ry : RelV y u) (h : ∀ s', Inv X pins σ H s' → Q (.bool o.isSome) s') :
    wpAny (model X.prog X.w) A (compareOp .In u (.ref a)) Q E s := by
  rcases g with ⟨kvs, k, e, ey, l⟩ | ⟨kvs, k, b, e, ey, eb, l⟩
  · subst ey
    obtain ⟨z, hd, vs, rel, dd⟩ := dk_rd I.hok e
    refine wpAny_in_of (kV_is ry) hd dd.mapOf ?_
    rw [← (rel.val k).isSome_eq, ← l]
    exact h _ (I.tok _)
  · subst ey
    cases (show u = Value.ref b from ry)
    obtain ⟨z, hd, xs, rel, dd⟩ := dt_rd I.hok e
    refine wpAny_in_heap (tupleKind_room_in1 hu) (key_of I.hok eb) hd dd ?_
    have q := (rel.val k).isSome_eq
    rw [Option.isSome_map] at q
    rw [← q, ← l]
    exact h _ (I.tok _)
/-- a dict's object is replaced -/
theorem d_write {h' : Heap} {t' : Nat} {ob : HO} (I : Inv X pins σ H s) (mu : Mut (H a)) (hs : Heap.SameBut a s.heap h') (he : ∃ q, h'.get? a = some q) (new : ObjOk X.prog X.w (upd H a ob) h' a ob) :
    Inv X pins σ (upd H a ob) { s with heap := h', toks := t' } :=
  I.write (x := a) (e := a) mu (.inl rfl) (fun b q hb z => (hs.2 b hb).trans z) he new
theorem dk_new {P : Program} {w : World} {H' : Hp} {h' : Heap} {kvs : List (Key × V)} {vs : List (Key × Value)} (z : kvs.length ≤ sizeLine) (hd : (a == sysModules) = false) (rel : KV kvs vs) (dd : h'.DictOf (mixKind P w) a vs) :
    ObjOk P w H' h' a (.dK kvs) := ⟨z, hd, vs, rel, dd⟩
/-- d[y] = v -/
theorem d_setItem {H' : Hp} {Q : Unit → Shared → Prop} (hu : A.units + 1 < cLine) (I : Inv X pins σ H s) (g : DPut H a y v H') (ry : RelV y u) (rv : RelV v r) (h : ∀ s', Inv X pins σ H' s' → Q () s') :
    wpAny (model X.prog X.w) A (setItem (.ref a) u r) Q E s := by
  rcases g with ⟨kvs, k, e, ey, l, eH⟩ | ⟨kvs, k, b, e, ey, eb, l, eH⟩
  · subst ey eH
    obtain ⟨z, hd, vs, rel, dd⟩ := dk_of I.hok e
    have hz : vs.length ≤ sizeLine := by rw [← rel.length]; exact z
    have hl : (putK kvs k v).length ≤ sizeLine := by have := length_putK kvs k v; omega
    refine wpAny_setItem_pairs (hsz := hz) (kV_is ry) dd fun h' dd' hs => h _ ?_
    have he : ∃ q, h'.get? a = some q := let ⟨q, _, _, hq, _⟩ := dd'; ⟨q, hq⟩
    exact d_write I (by rw [e]; exact True.intro) hs he (dk_new hl hd (rel.put k rv) dd')
  · subst ey eH
    cases (show u = Value.ref b from ry)
    obtain ⟨z, hd, xs, rel, dd⟩ := dt_of I.hok e
    have hz : xs.length ≤ sizeLine := by rw [← Paired.length rel]; exact z
    have hl : (putK kvs k v).length ≤ sizeLine := by have := length_putK kvs k v; omega
    refine wpAny_setItem_heap (hsz := hz) (tupleKind_room_in1 hu) (key_of I.hok eb) dd fun h' dd' hs => h _ ?_
    obtain ⟨q, es, ep, hq, h2, h3, h4, _, h5⟩ := dd'
    refine d_write I (by rw [e]; exact True.intro) hs ⟨q, hq⟩ ⟨hl, hd, _, (rel.put k eb rv).keeps fun c ys ec => ?_, q, es, ep, hq, h2, h3, h4, h5⟩
    rw [upd_ne (ne_of ec e (fun z => nomatch z))]
    exact ec
end

section
variable {X : Cx} {pins : List (Addr × Obj)} {σ : St} {H : Hp} {s : Shared} {a : Addr} {kvs : List (Key × V)} {k : Key} {u : Value} {A : Around} {E : Value → Shared → Prop}
end


/-! ### readings and rules -/
/-- the element of a subscription, not a slice -/
def NoSl (i : Expr) : Prop := ∀ ov iv, subscripted i false ov iv = operate [ov, iv] (getItem ov iv)
theorem subD_of {prog : Program} {w : World} {A : Around} {E : Value → Shared → Prop} {s : Shared} {env : Env} {value slice : Expr} {pos : Pos} {T id : String} {Q : Value → Shared → Prop}
    (hl : typeLookup (.type T) "__getitem__" = pure (some (.builtin id))) (hs : NoSl slice)
    (h : wpAny (model prog w) A (eval value env) (fun o s₁ => wpAny (model prog w) A (eval slice env) (fun i s₂ => s₂.TypeIs o T ∧ wpAny (model prog w) A (getItem o i) Q E s₂) E s₁) E s) :
    wpAny (model prog w) A (eval (.Subscript value slice pos) env) Q E s := by
  refine Subscript_ (wpAny_mono h (fun o s₁ h₁ => wpAny_mono h₁ (fun i s₂ h₂ => ?_) fun _ _ x => x) fun _ _ x => x)
  obtain ⟨hT, h₂⟩ := h₂
  unfold subscriptTail
  refine wpAny_bind ?_
  rw [getitemInPython_of_ne hT.not_modules]
  refine wpAny_bind (wpAny_specialOf hT hl ?_)
  have fin : wpAny (model prog w) A (subscripted slice false o i) (fun r s₃ => wpAny (model prog w) A (letTemporaryGo value o r >>= fun _ => pure r) Q E s₃) E s₂ := by
    rw [hs o i]
    exact wpAny_operating (wpAny_mono h₂ (fun r s₃ h₃ => wpAny_bind (wpAny_letTemporaryGo (wpAny_pure h₃))) fun _ _ x => x)
  first
    | exact wpAny_pure (wpAny_bind fin)
    | exact wpAny_bind (wpAny_pure (wpAny_bind fin))
    | exact wpAny_bind fin

theorem dict_typeIs {X : Cx} {pins : List (Addr × Obj)} {σ : St} {H : Hp} {s : Shared} {a : Addr} {y : V} {o : Option V} (I : Inv X pins σ H s) (g : DGet H a y o) : s.TypeIs (.ref a) "dict" := by
  rcases g with ⟨kvs, k, e, _, _⟩ | ⟨kvs, k, b, e, _, _, _⟩
  · obtain ⟨_, _, vs, _, dd⟩ := dk_rd I.hok e
    exact dd.typeIs
  · obtain ⟨_, _, xs, _, dd⟩ := dt_rd I.hok e
    exact dd.typeIs
/-- d[y] -/
def tDGet (td ty : TE) : TE := fun σ H Q => td σ H fun x H1 => ty σ H1 fun y H2 => ∃ a v, x = .ref a ∧ DGet H2 a y (some v) ∧ Q v H2
/-- y in d, y not in d -/
def tDIn (ty td : TE) : TE := fun σ H Q => ty σ H fun y H1 => td σ H1 fun x H2 => ∃ a o, x = .ref a ∧ DGet H2 a y o ∧ Q (.bl o.isSome) H2
def tDNotIn (ty td : TE) : TE := fun σ H Q => ty σ H fun y H1 => td σ H1 fun x H2 => ∃ a o, x = .ref a ∧ DGet H2 a y o ∧ Q (.bl (!o.isSome)) H2
/-- d[y] = v -/
def sDPut (td ty tv : TE) : TS := fun D σ H => tv σ H fun v H1 => td σ H1 fun x H2 => ty σ H2 fun y H3 => ∃ a H4, x = .ref a ∧ DPut H3 a y v H4 ∧ D.nx σ H4
/-- d[y] op= v -/
def sDAug (td ty tv : TE) (rd : V → V → Hp → VK → Prop) : TS := fun D σ H => td σ H fun x H1 => ty σ H1 fun y H2 => ∃ a v, x = .ref a ∧ DGet H2 a y (some v) ∧
  tv σ H2 fun y2 H3 => rd v y2 H3 fun z H4 => ∃ H5, DPut H4 a y z H5 ∧ D.nx σ H5
/-- del d[y] -/
def sDDel (td ty : TE) : TS := fun D σ H => td σ H fun x H1 => ty σ H1 fun y H2 => ∃ a kvs k, x = .ref a ∧ H2 a = some (.dK kvs) ∧ y = kV k ∧ (valV kvs k).isSome = true ∧ D.nx σ (upd H2 a (.dK (dropK kvs k)))

section
variable {X : Cx} {o i e value : Expr} {pos pos' tpos : Pos} {td ty tv : TE}
theorem pe_dget (hu : X.A.units + 1 < cLine) (ho : PE X o td) (hi : PE X i ty) (hs : NoSl i) : PE X (.Subscript o i pos) (tDGet td ty) := by
  intro pins s σ H Q I h
  refine subD_of PySem.F.slot_dict_getitem.lookup hs (thn (ho pins s σ H _ I h) fun u s1 ⟨x, H1, I1, rx, q1⟩ => thn (hi pins s1 σ H1 _ I1 q1) fun iv s2 ⟨y, H2, I2, ry, a, v, ex, g, q2⟩ => ?_)
  subst ex
  obtain rfl : u = Value.ref a := rx
  exact ⟨dict_typeIs I2 g, d_getItem hu I2 g ry fun w' s3 I3 rw' => ⟨v, H2, I3, rw', q2⟩⟩
theorem pc_din (hu : X.A.units + 1 < cLine) (hi : PE X i ty) (ho : PE X o td) : PC X .In i o (tDIn ty td) := by
  intro pins s σ H Q I h
  refine thn (hi pins s σ H _ I h) fun iv s1 ⟨y, H1, I1, ry, q1⟩ => thn (ho pins s1 σ H1 _ I1 q1) fun u s2 ⟨x, H2, I2, rx, a, ov, ex, g, q2⟩ => ?_
  subst ex
  obtain rfl : u = Value.ref a := rx
  exact d_in hu I2 g ry fun s3 I3 => ⟨.bl ov.isSome, H2, I3, rfl, q2⟩
theorem ps_dput (hu : X.A.units + 1 < cLine) (ho : PE X o td) (hi : PE X i ty) (hv : PE X value tv) (hs : swapsWith value (some (.Subscript o i pos')) pos.line X.env = pure false) :
    PS X (.Assign [.Subscript o i pos'] value pos) (sDPut td ty tv) := by
  intro pins s σ H D I h
  refine wpAny_Assign_Subscript (thn (hv pins s σ H _ I h) fun r s1 ⟨v, H1, I1, rv, q1⟩ => thn (ho pins s1 σ H1 _ I1 q1) fun u s2 ⟨x, H2, I2, rx, q2⟩ => thn (hi pins s2 σ H2 _ I2 q2) fun iv s3 ⟨y, H3, I3, ry, a, H4, ex, g, q3⟩ => ?_) hs
  subst ex
  obtain rfl : u = Value.ref a := rx
  exact d_setItem hu I3 g ry rv fun s4 I4 => ⟨σ, H4, I4, q3⟩
end


/-! ### displays -/
theorem dk_empty {P : Program} {w : World} {H : Hp} (h : Heap) (hb : sysModules < h.objs.size) : ObjOk P w H (h.push { cls := .type "dict", data := .dict #[] }) h.objs.size (.dK []) :=
  ⟨Nat.zero_le _, beq_eq_false_iff_ne.mpr (Ne.symm (Nat.ne_of_lt hb)), [], .nil, Heap.DictOf.new h⟩
/-- {}, to be a dict of the kind that is wanted -/
def tDNewK : TE := fun _ H Q => ∀ p, H p = none → Q (.ref p) (upd H p (.dK []))
def tDNewT : TE := fun _ H Q => ∀ p, H p = none → Q (.ref p) (upd H p (.dT []))
section
variable {X : Cx} {pos : Pos}
theorem pe_dnewK : PE X (.Dict [] [] pos) tDNewK := fun pins s σ H Q I h =>
  wpAny_Dict_empty ⟨.ref s.heap.objs.size, _, I.laid (a := s.heap.objs.size) (o := .dK []) (t' := s.toks) (fun _ _ q => Heap.get?_push_of_some _ q) (Nat.le_refl _) (dk_empty s.heap I.big), rfl, h _ (I.hok.fresh (Nat.le_refl _))⟩
end

/-- the pairs of a display, from the left -/
def tPairs : List (TE × TE) → St → Hp → (List (V × V) → Hp → Prop) → Prop
  | [], _, H, Q => Q [] H
  | (tk, tv) :: r, σ, H, Q => tk σ H fun x H1 => tv σ H1 fun y H2 => tPairs r σ H2 fun ps H3 => Q ((x, y) :: ps) H3
abbrev VV : List (V × V) → List (Value × Value) → Prop := Paired fun p q => RelV p.1 q.1 ∧ RelV p.2 q.2
def PPs (X : Cx) (pos : Pos) (keys : List (Option Expr)) (values : List Expr) (trs : List (TE × TE)) : Prop :=
  ∀ (pins : List (Addr × Obj)) (s : Shared) (σ : St) (H : Hp) (Q : List (V × V) → Hp → Prop), Inv X pins σ H s → tPairs trs σ H Q →
    wpAny (model X.prog X.w) X.A (evalPairs (pairTrees keys values X.env pos)) (fun vs s' => ∃ ps H', Inv X pins σ H' s' ∧ VV ps vs ∧ Q ps H') X.xe s
theorem pps_nil {X : Cx} {pos : Pos} : PPs X pos [] [] [] := fun pins s σ H Q I h => pairTrees_nil_walk ⟨[], H, I, .nil, h⟩
theorem pps_cons {X : Cx} {pos : Pos} {k v : Expr} {ks : List (Option Expr)} {vs : List Expr} {tk tv : TE} {trs : List (TE × TE)} (hk : PE X k tk) (hv : PE X v tv) (hr : PPs X pos ks vs trs) :
    PPs X pos (some k :: ks) (v :: vs) ((tk, tv) :: trs) := fun pins s σ H Q I h =>
  pairTrees_cons_walk (thn (hk pins s σ H _ I h) fun u s1 ⟨x, H1, I1, rx, q1⟩ => thn (hv pins s1 σ H1 _ I1 q1) fun w2 s2 ⟨y, H2, I2, ry, q2⟩ =>
    thn (hr pins s2 σ H2 _ I2 q2) fun ws s3 ⟨ps, H3, I3, rel, q3⟩ => ⟨(x, y) :: ps, H3, I3, .cons ⟨rx, ry⟩ rel, q3⟩)

def mergeK (kvs more : List (Key × V)) : List (Key × V) := more.foldl (fun acc kv => putK acc kv.1 kv.2) kvs
theorem KV.merge : ∀ {more : List (Key × V)} {rs : List (Key × Value)} {kvs : List (Key × V)} {vs : List (Key × Value)}, KV more rs → KV kvs vs → KV (mergeK kvs more) (merged vs rs) := by
  intro more rs kvs vs r
  unfold KV at r
  induction r generalizing kvs vs with
  | nil => intro q; exact q
  | @cons p q ps qs h t ih =>
    intro r0
    have e : KV (putK kvs p.1 p.2) (stored vs q.1 q.2) := by
      have := r0.put p.1 h.2
      rw [← h.1]; exact this
    exact ih e
theorem length_mergeK : ∀ (more kvs : List (Key × V)), (mergeK kvs more).length ≤ kvs.length + more.length
  | [], kvs => by show kvs.length ≤ kvs.length + 0; omega
  | p :: r, kvs => by
    have h1 := length_mergeK r (putK kvs p.1 p.2)
    have h2 := length_putK kvs p.1 p.2
    show (mergeK (putK kvs p.1 p.2) r).length ≤ _
    rw [List.length_cons]; omega
theorem carries_of {P : Program} {w : World} : ∀ {kvs : List (Key × V)} {ws : List (Value × Value)}, VV (kvs.map fun kv => (kV kv.1, kv.2)) ws → ∃ rs, Carries (mixKind P w) ws rs ∧ KV kvs rs
  | [], _, r => by rw [List.map_nil] at r; cases r; exact ⟨[], True.intro, .nil⟩
  | p :: kvs, _, r => by
    rw [List.map_cons] at r
    cases r with
    | @cons a b as bs h t =>
      obtain ⟨rs, c, q⟩ := carries_of (P := P) (w := w) t
      obtain ⟨b1, b2⟩ := b
      exact ⟨(p.1, b2) :: rs, ⟨kV_is h.1, rfl, c⟩, .cons ⟨rfl, h.2⟩ q⟩
/-- {k: v, ..} with keys ints and texts; the new dict stands empty while the pairs are made -/
def tDisp (trs : List (TE × TE)) : TE := fun σ H Q => ∀ p, H p = none → tPairs trs σ (upd H p (.dK [])) fun ps H2 => H2 p = some (.dK []) ∧ ∃ kvs : List (Key × V), ps = kvs.map (fun kv => (kV kv.1, kv.2)) ∧ kvs.length ≤ 15 ∧ Q (.ref p) (upd H2 p (.dK (mergeK [] kvs)))
theorem pe_disp {X : Cx} {pos : Pos} {keys : List (Option Expr)} {values : List Expr} {trs : List (TE × TE)} (h : PPs X pos keys values trs) (hall : keys.all (·.isSome) = true) (hl : keys.length = values.length) (h0 : keys ≠ [])
    (h15 : keys.length ≤ 15) : PE X (.Dict keys values pos) (tDisp trs) := by
  intro pins s σ H Q I q
  have hn := I.hok.fresh (Nat.le_refl s.heap.objs.size)
  have I1 := I.laid (a := s.heap.objs.size) (o := .dK []) (h' := s.heap.push { cls := .type "dict", data := .dict #[] }) (t' := s.toks) (fun _ _ q => Heap.get?_push_of_some _ q) (Nat.le_refl _) (dk_empty s.heap I.big)
  refine wpAny_Dict_walk (knd := mixKind X.prog X.w) hall hl h0 h15 (thn (h pins _ σ _ _ I1 (q _ hn)) fun ws s2 ⟨ps, H2, I2, rel, e, kvs, ep, lk, q2⟩ => ?_)
  subst ep
  obtain ⟨rs, c, rk⟩ := carries_of (P := X.prog) (w := X.w) rel
  obtain ⟨z, hd, vs0, r0, dd⟩ := dk_of I2.hok e
  cases r0
  refine ⟨rs, c, dd, fun h' dd' hs => ⟨.ref s.heap.objs.size, _, ?_, rfl, q2⟩⟩
  have hz : (mergeK [] kvs).length ≤ sizeLine := by
    have h1 := length_mergeK kvs []
    rw [List.length_nil] at h1
    rw [sizeLine_eq]; omega
  have he : ∃ q, h'.get? s.heap.objs.size = some q := let ⟨q, _, _, hq, _⟩ := dd'; ⟨q, hq⟩
  exact d_write I2 (by rw [e]; exact True.intro) hs he (dk_new hz hd (rk.merge .nil) dd')


/-! ### methods -/
/-- a method call o.m(e) of a built-in, with one argument: what must be seen of the text -/
structure M1 (X : Cx) (o : Expr) (m : Str) (apos : Pos) (e : Expr) (cpos : Pos) : Prop where
  base : attributeBase o m X.env (eval o X.env) = eval o X.env
  few : ((backTo cpos (starEach [e] X.env)).all (fun x => !x.1) && (backToKw cpos (keywordEach [] X.env)).all (fun x => x.1.isSome)
    && decide (([e] : List Expr).length + ([] : List Keyword).length + (if ([] : List Keyword).isEmpty then 0 else 1) < 30)) = true
  line : (apos.endLine == cpos.line) = true
  trees : backTo cpos (starEach [e] X.env) = [(false, eval e X.env)]
structure M2 (X : Cx) (o : Expr) (m : Str) (apos : Pos) (e f : Expr) (cpos : Pos) : Prop where
  base : attributeBase o m X.env (eval o X.env) = eval o X.env
  few : ((backTo cpos (starEach [e, f] X.env)).all (fun x => !x.1) && (backToKw cpos (keywordEach [] X.env)).all (fun x => x.1.isSome)
    && decide (([e, f] : List Expr).length + ([] : List Keyword).length + (if ([] : List Keyword).isEmpty then 0 else 1) < 30)) = true
  line : (apos.endLine == cpos.line) = true
  trees : backTo cpos (starEach [e, f] X.env) = [(false, eval e X.env), (false, eval f X.env)]

/-- a is a dict, whatever its keys -/
def IsD (H : Hp) (a : Addr) : Prop := (∃ kvs, Rd H a (.dK kvs)) ∨ ∃ kvs, Rd H a (.dT kvs)
section
variable {X : Cx} {pins : List (Addr × Obj)} {σ : St} {H : Hp} {s : Shared} {a : Addr} {y d : V} {u r : Value} {o : Option V} {A : Around} {E : Value → Shared → Prop}
end

def tDGet1 (td ty : TE) : TE := fun σ H Q => td σ H fun x H1 => ∃ a, x = .ref a ∧ IsD H1 a ∧ ty σ H1 fun y H2 => ∃ o, DGet H2 a y o ∧ Q (o.getD .non) H2
def tDGet2 (td ty tx : TE) : TE := fun σ H Q => td σ H fun x H1 => ∃ a, x = .ref a ∧ IsD H1 a ∧ ty σ H1 fun y H2 => tx σ H2 fun z H3 => ∃ o, DGet H3 a y o ∧ Q (o.getD z) H3
/-- d.pop(k): there; d.pop(k, x): there or not -/
def tDPop1 (td ty : TE) : TE := fun σ H Q => td σ H fun x H1 => ∃ a, x = .ref a ∧ IsD H1 a ∧ ty σ H1 fun y H2 => ∃ kvs k v, H2 a = some (.dK kvs) ∧ y = kV k ∧ valV kvs k = some v ∧ Q v (upd H2 a (.dK (dropK kvs k)))
def tDPop2 (td ty tx : TE) : TE := fun σ H Q => td σ H fun x H1 => ∃ a, x = .ref a ∧ IsD H1 a ∧ ty σ H1 fun y H2 => tx σ H2 fun z H3 => ∃ kvs k, H3 a = some (.dK kvs) ∧ y = kV k ∧
  (∀ v, valV kvs k = some v → Q v (upd H3 a (.dK (dropK kvs k)))) ∧ (valV kvs k = none → Q z H3)
section
variable {X : Cx} {o e f : Expr} {apos cpos : Pos} {td ty tx : TE}
end

/-! ### dict(d): a copy -/
section
variable {X : Cx} {pins : List (Addr × Obj)} {σ : St} {H : Hp} {s : Shared} {a : Addr} {kvs : List (Key × V)} {A : Around} {E : Value → Shared → Prop}
end


section
variable {X : Cx} {pins : List (Addr × Obj)} {σ : St} {H : Hp} {s : Shared} {a : Addr} {y : V} {u : Value} {A : Around} {E : Value → Shared → Prop}
end
end L2

namespace L2
open PySem PySem.Spec PyProof.Rows PySem.W
section
variable {X : Cx} {H0 : Hp} {O0 : Ex}
/-- {a: c, b: d}[e], texts -/
def dSel (a b c d : Str) (t : DT) : DT := fun δ Q => t δ fun y => (y = .str a ∧ Q (.str c)) ∨ (y = .str b ∧ Q (.str d))
/-- written texts and numbers -/
def litsOf : List Expr → Option (List PyData)
  | [] => some []
  | .Constant (.int i) _ _ :: r => (litsOf r).map (.int i :: ·)
  | .Constant (.str x) _ _ :: r => (litsOf r).map (.str x :: ·)
  | _ :: _ => none
def dLits (ds : List PyData) : DA := fun _ Q => Q ds
theorem da_lits : ∀ {es : List Expr} {ds : List PyData}, litsOf es = some ds → PA X es (upA X.K H0 O0 (dLits ds))
  | [], ds, h => by cases h; exact da_nil
  | e :: r, ds, h => by
    cases e with
    | Constant c j p =>
      cases c with
      | int i =>
        have h' : (litsOf r).map (.int i :: ·) = some ds := h
        cases q : litsOf r with
        | none => rw [q] at h'; cases h'
        | some ms => rw [q] at h'; cases h'; exact da_cons de_int (da_lits q)
      | str x =>
        have h' : (litsOf r).map (.str x :: ·) = some ds := h
        cases q : litsOf r with
        | none => rw [q] at h'; cases h'
        | some ms => rw [q] at h'; cases h'; exact da_cons de_str (da_lits q)
      | _ => cases h
    | _ => cases h
def litsE : Expr → Option (List PyData)
  | .List es _ => litsOf es
  | _ => none
theorem fe_lits {e : Expr} {ds : List PyData} (h : litsE e = some ds) : FE X H0 O0 e (dFin (dLits ds)) := by
  cases e with
  | List es p => exact fe_lst (da_lits h)
  | _ => cases h
end
end L2

namespace L2
open PySem PySem.Spec PyProof.Rows PySem.W
/-- a text that may be compared, of at most n signs -/
structure GoodS (n : Nat) (x : Str) : Prop where
  ok : PyData.strOk x = true
  le : x.length ≤ n
theorem strOk_iff {x : Str} : PyData.strOk x = true ↔ ∀ c ∈ x.cps.toList, c < 0x110000 := by
  unfold PyData.strOk
  rw [← Array.all_toList, List.all_eq_true]
  simp
theorem cps_append (x y : Str) : (x ++ y).cps = x.cps ++ y.cps := rfl
theorem len_append (x y : Str) : (x ++ y).length = x.length + y.length := by
  show (x.cps ++ y.cps).size = _
  rw [Array.size_append]; rfl
theorem GoodS.append {a b : Nat} {x y : Str} (h : GoodS a x) (h' : GoodS b y) : GoodS (a + b) (x ++ y) := by
  refine ⟨strOk_iff.mpr fun c hc => ?_, by rw [len_append]; have := h.le; have := h'.le; omega⟩
  rw [cps_append, Array.toList_append] at hc
  rcases List.mem_append.mp hc with z | z
  · exact strOk_iff.mp h.ok c z
  · exact strOk_iff.mp h'.ok c z
theorem GoodS.mono {a b : Nat} {x : Str} (h : GoodS a x) (hb : a ≤ b) : GoodS b x := ⟨h.ok, Nat.le_trans h.le hb⟩
theorem GoodS.slice {a : Nat} {x : Str} (h : GoodS a x) (l u : Option Int) : GoodS a (Txt.slice x l u) := by
  refine ⟨strOk_iff.mpr fun c hc => ?_, Nat.le_trans (Txt.slice_le x l u) h.le⟩
  unfold Txt.slice at hc
  split at hc
  · exact strOk_iff.mp h.ok c hc
  · simp only [List.mem_filterMap] at hc
    obtain ⟨i, _, hi⟩ := hc
    exact strOk_iff.mp h.ok c (by
      have := Array.mem_of_getElem? hi
      simpa using this)
theorem GoodS.chr {c : Nat} (h : c < 0x110000) : GoodS 1 ⟨#[c]⟩ := ⟨strOk_iff.mpr fun d hd => by
  have : d = c := by simpa using hd
  rw [this]; exact h, Nat.le_refl _⟩
theorem GoodS.join : ∀ {ys : List Str}, (∀ y ∈ ys, GoodS 1 y) → GoodS ys.length (Txt.join "" ys) := by
  have key : ∀ ys : List Str, (∀ y ∈ ys, GoodS 1 y) → GoodS ys.length (Str.join "" ys) := by
    intro ys
    induction ys with
    | nil => intro _; exact ⟨by decide +kernel, by decide +kernel⟩
    | cons y r ih =>
      intro h
      cases r with
      | nil => exact h y (by simp)
      | cons z r =>
        have a := h y (by simp)
        have b := ih fun w hw => h w (by simp [hw])
        have e : GoodS 0 ("" : Str) := ⟨by decide +kernel, by decide +kernel⟩
        have := (a.append e).append b
        refine this.mono ?_
        simp only [List.length_cons]; omega
  intro ys h
  have e : Txt.join "" ys = Str.join "" ys := StrLaws.glued_eq_join "" ys
  rw [e]; exact key ys h
/-- the letters -/
def abc : Str := "abcdefghijklmnopqrstuvwxyz"
theorem abc_len : abc.cps.toList.length = 26 := by decide +kernel
theorem abc_ok : ∀ c ∈ abc.cps.toList, c < 0x110000 := by decide +kernel
theorem abc_at {j : Int} (h0 : 0 ≤ j) (h1 : j < 26) : ∃ c, atI abc.cps.toList j = some c ∧ abc.cps.toList[j.toNat]? = some c ∧ c < 0x110000 := by
  obtain ⟨k, rfl⟩ := Int.eq_ofNat_of_zero_le h0
  have hk : k < abc.cps.toList.length := by rw [abc_len]; omega
  refine ⟨abc.cps.toList[k], atI_nat (by simp [hk]), by simp [hk], abc_ok _ (List.getElem_mem hk)⟩
def abcAt (j : Int) : Nat := (abc.cps.toList[j.toNat]?).getD 0
theorem abcAt_at {j : Int} (h0 : 0 ≤ j) (h1 : j < 26) : atI abc.cps.toList j = some (abcAt j) ∧ abcAt j < 0x110000 := by
  obtain ⟨c, e1, e2, e3⟩ := abc_at h0 h1
  have : abcAt j = c := by unfold abcAt; rw [e2]; rfl
  rw [this]; exact ⟨e1, e3⟩
/-- data of at most n storeys -/
structure Lay (n : Nat) (d : PyData) : Prop where
  can : d.canLay0 = true
  dep : d.depth ≤ n
theorem Lay.shp {n : Nat} {d : PyData} (h : Lay n d) (hn : n ≤ 64) : SeqAt.shaped d = true := by
  unfold SeqAt.shaped; rw [h.can, decide_eq_true (Nat.le_trans h.dep hn)]; rfl
theorem Lay.mono {n m : Nat} {d : PyData} (h : Lay n d) (hn : n ≤ m) : Lay m d := ⟨h.can, Nat.le_trans h.dep hn⟩
theorem lay_str {x : Str} (h : PyData.strOk x = true) : Lay 1 (.str x) := ⟨by simpa [PyData.canLay0] using h, by simp [PyData.depth]⟩
theorem lay_int {i : Int} : Lay 1 (.int i) := ⟨by simp [PyData.canLay0], by simp [PyData.depth]⟩
theorem lay_bool {i : Bool} : Lay 1 (.bool i) := ⟨by simp [PyData.canLay0], by simp [PyData.depth]⟩
theorem lay_all {n : Nat} : ∀ {ds : List PyData}, (∀ d ∈ ds, Lay n d) → PyData.canLayAll0 ds = true ∧ PyData.depthAll ds ≤ n
  | [], _ => ⟨by simp [PyData.canLayAll0], by simp [PyData.depthAll]⟩
  | d :: r, h => by
    obtain ⟨a, b⟩ := lay_all (ds := r) fun e he => h e (by simp [he])
    have c := h d (by simp)
    refine ⟨by rw [PyData.canLayAll0, c.can, a]; rfl, ?_⟩
    rw [PyData.depthAll]
    exact Nat.max_le.mpr ⟨c.dep, b⟩
theorem lay_tup {n : Nat} {ds : List PyData} (h : ∀ d ∈ ds, Lay n d) : Lay (n + 1) (.tuple ds) := by
  obtain ⟨a, b⟩ := lay_all h
  refine ⟨by simpa [PyData.canLay0] using a, ?_⟩
  rw [PyData.depth]; omega
end L2

namespace L2
open PySem PySem.Spec PyProof.Rows
section
variable {X : Cx} {pos : Pos}
/-- (a, b, ..) = a list of that length -/
def gLst (K : PySem.W.Frag) (n : Nat) (t : TGs) : TG := fun v σ H Q => ∃ a xs, v = .ref a ∧ SqL K H a xs ∧ xs.length = n ∧ t xs σ H Q
def dgLst (n : Nat) (t : DGs) : DG := fun x δ Q => ∃ xs, x = .list xs ∧ xs.length = n ∧ t xs δ Q
end
/-! a comprehension bound to a name -/
def PU (X : Cx) (e : Expr) (te : TE) : Prop := ∀ (i : Nat) (x : Str) (pos' spos : Pos) (hN : X.N.Nodup) (hxi : X.N[i]? = some x) (hx : Loc X.env.scope x) (hsw : swapsWith e (some (.Name x pos')) spos.line X.env = pure true)
  (hfn : X.fn x = true ∨ X.env.scope.names.lookup x = some .local), PS X (.Assign [.Name x pos'] e spos) (tAsg te (gName i))
theorem PU.imp {X : Cx} {e : Expr} {t u : TE} (h : PU X e t) (i : ∀ σ H Q, u σ H Q → t σ H Q) : PU X e u := fun i' x p1 p2 hN hxi hx hsw hfn => (h i' x p1 p2 hN hxi hx hsw hfn).imp fun D σ H z => i σ H _ z
section
variable {X : Cx} {H0 : Hp} {O0 : Ex}
section
variable {tg iter elt : Expr} {ifs : List Expr} {scope : Scope} {N' : List Str} {k : Nat} {fr : List Nat} {g : TG} {dg : DG} {t : DT} {ta : DA} {tc : DB} {te : DT} {pos p ps : Pos}
theorem pu_comp {wi : TI} {tc : TT} {te : TE} (hc : X.calm = true) (S : CompScope X.env.scope X.N N' k fr scope) (hi : PI X tg iter wi)
    (hg : ∀ fp C s H, PG (compCx X scope N' fp C s H) tg g) (hf : ∀ fp C s H, PIfs (compCx X scope N' fp C s H) ifs tc) (he : ∀ fp C s H, PE (compCx X scope N' fp C s H) elt te)
    (hs : ∀ x, foldedSetIterable iter X.env x = pure x := by intro _; rfl) : PU X (.ListComp elt [⟨tg, iter, ifs, 0⟩] scope pos) (tComp wi g tc te k fr) :=
  fun _ _ _ _ hN hxi hx hsw hfn => ps_setComp hN hxi hx hc S hi hg hf he hsw hs hfn
end
/-- name = a comprehension, over data -/
theorem ds_setC {i : Nat} {x : Str} {e : Expr} {t : DA} {pos pos' : Pos} (hN : X.N.Nodup) (hi : X.N[i]? = some x) (hx : Loc X.env.scope x) (he : PU X e (upF X.K H0 O0 t)) (hs : swapsWith e (some (.Name x pos')) pos.line X.env = pure true := by rfl) (hf : X.fn x = true ∨ X.env.scope.names.lookup x = some .local := by first | exact .inl rfl | exact .inr rfl | assumption) :
    PS X (.Assign [.Name x pos'] e pos) (upD X.K H0 O0 (dSet i (dL t))) :=
  (he _ _ _ _ hN hi hx hs hf).imp fun D σ H ⟨O, δ, E, w, q, k1, k2, k3, k4⟩ => ⟨O, δ, _, w, q, fun ds vs p H1 q1 s1 hp r1 =>
    k1 O _ _ _ q1 ((w.mono (s1.trans (Same.new hp))).set (.lst (.inl upd_same) (nex w s1 hp) (r1.mono (Same.new hp)))) (.same (s1.trans (Same.new hp)))⟩
end
/-! == of data, the other way about -/
mutual
theorem eqv_comm : ∀ d e : PyData, PyData.eqv d e = PyData.eqv e d
  | .list xs, .list ys => by rw [PyData.eqv, PyData.eqv]; exact eqvAll_comm xs ys
  | .tuple xs, .tuple ys => by rw [PyData.eqv, PyData.eqv]; exact eqvAll_comm xs ys
  | .bool _, .bool _ | .int _, .int _ | .str _, .str _ => by simp only [PyData.eqv]; exact BEq.comm
  | .bool a, .int j | .int j, .bool a => by simp only [PyData.eqv]; exact BEq.comm
  | .none, .none => rfl
  | .dict _, .dict _ => by simp only [PyData.eqv]
  | .none, .bool _ | .none, .int _ | .none, .str _ | .none, .list _ | .none, .tuple _ | .none, .dict _ => by simp only [PyData.eqv]
  | .bool _, .none | .bool _, .str _ | .bool _, .list _ | .bool _, .tuple _ | .bool _, .dict _ => by simp only [PyData.eqv]
  | .int _, .none | .int _, .str _ | .int _, .list _ | .int _, .tuple _ | .int _, .dict _ => by simp only [PyData.eqv]
  | .str _, .none | .str _, .bool _ | .str _, .int _ | .str _, .list _ | .str _, .tuple _ | .str _, .dict _ => by simp only [PyData.eqv]
  | .list _, .none | .list _, .bool _ | .list _, .int _ | .list _, .str _ | .list _, .tuple _ | .list _, .dict _ => by simp only [PyData.eqv]
  | .tuple _, .none | .tuple _, .bool _ | .tuple _, .int _ | .tuple _, .str _ | .tuple _, .list _ | .tuple _, .dict _ => by simp only [PyData.eqv]
  | .dict _, .none | .dict _, .bool _ | .dict _, .int _ | .dict _, .str _ | .dict _, .list _ | .dict _, .tuple _ => by simp only [PyData.eqv]
theorem eqvAll_comm : ∀ xs ys : List PyData, PyData.eqvAll xs ys = PyData.eqvAll ys xs
  | [], [] => rfl
  | x :: xs, y :: ys => by rw [PyData.eqvAll, PyData.eqvAll, eqv_comm x y, eqvAll_comm xs ys]
  | [], _ :: _ => by rw [PyData.eqvAll, PyData.eqvAll]
  | _ :: _, [] => by rw [PyData.eqvAll, PyData.eqvAll]
end
end L2

namespace L2
open PySem PySem.Spec PyProof.Rows PySem.W
/-! a text walked sign by sign -/
def Its (z : Str) : It := ⟨fun i _ => i < z.cps.size, fun i H x H' => H' = H ∧ ∃ c, z.cps[i]? = some c ∧ x = .str ⟨#[c]⟩, fun i _ => z.cps.size ≤ i⟩
def iStr (tl : TE) : TI := fun σ H R => tl σ H fun x H1 => ∃ z, x = .str z ∧ R (Its z) H1
/-- the signs of a text, as texts -/
def signsD (z : Str) : List PyData := z.cps.toList.map fun c => .str ⟨#[c]⟩
theorem SrcP.str {z : Str} : SrcP (Its z) (fun _ => True) (z.cps.toList.map fun c => V.str ⟨#[c]⟩) := by
  refine ⟨fun i H' s hi => (by simpa using hi : i < z.cps.size), fun i H' x H'' s hi y => ⟨y.1, ?_⟩, fun i H' s hi => (by simpa using hi : z.cps.size ≤ i)⟩
  obtain ⟨_, c, hc, rfl⟩ := y
  simp [hc]
theorem Dts.signs {K : PySem.W.Frag} {H : Hp} {O : Ex} : ∀ (l : List Nat), Dts K H O (l.map fun c => V.str ⟨#[c]⟩) (l.map fun c => PyData.str ⟨#[c]⟩)
  | [] => .nil
  | n :: r => .cons (.str _) (Dts.signs r)
section
variable {X : Cx} {H0 : Hp} {O0 : Ex}
def dCompSI (t : DT) (g : DG) (tc : DB) (te : DT) (k : Nat) (fr : List Nat) : DA := fun δ Q => t δ fun d => ∃ z, d = .str z ∧ z.length ≤ sizeLine ∧ compI g tc te (dst0 k fr δ) (signsD z) Q
def dCompR2I (ta : DA) (g : DG) (tc : DB) (te : DT) (k : Nat) (fr : List Nat) : DA := fun δ Q => ta δ fun ds => ∃ i j : Int, ds = [.int i, .int j] ∧ -(2 ^ 62) ≤ i ∧ j - i < sizeLine ∧ i < 2 ^ 62 ∧ -(2 ^ 62) ≤ j ∧ j < 2 ^ 62 ∧ compI g tc te (dst0 k fr δ) (rangeD i (j - i).toNat) Q
section
variable {tg iter elt : Expr} {ifs : List Expr} {scope : Scope} {N' : List Str} {k : Nat} {fr : List Nat} {g : TG} {dg : DG} {t : DT} {ta : DA} {tc : DB} {te : DT} {pos p ps : Pos}
end
/-! in, over data -/
def rInX (K : PySem.W.Frag) (neg : Bool) : R2 := fun x y H Q => ∃ O dx ds dy, Sh K H O x dx ∧ Sh K H O y dy ∧ (dy = .list ds ∨ dy = .tuple ds) ∧ Shp dx ∧ PyData.canLayAll0 ds = true ∧ Q (.bl (if neg then !(ds.any fun d => PyData.eqv d dx) else ds.any fun d => PyData.eqv d dx)) H
theorem room_in {A : Around} {k : Nat} {xs : List PyData} {d : PyData} (hd : Shp d) (hr : Room k A) : A.units + 1 + min (PyData.depthAll xs) d.depth < cLine := by
  have := SeqAt.depth_of_shaped hd
  have h1 : min (PyData.depthAll xs) d.depth ≤ d.depth := Nat.min_le_right _ _
  have := hr.un
  omega
theorem op_inX {k : Nat} (hr : Room k X.A) : OpR X (compareOp .In) (rInX X.K false) := by
  intro pins s σ H x y v u Q I rx ry h
  obtain ⟨O, dx, ds, dy, hx, hy, e, sx, sy, q⟩ := h
  obtain ⟨as, ra⟩ := dt_reads I hx.all (SeqAt.canLay_of_shaped sx) rx
  rcases e with e | e <;> subst e
  · obtain ⟨bs, rb⟩ := dt_reads I hy.all (by simpa [PyData.canLay0] using sy) ry
    exact SeqAt.in_list_reads rb ra sy (SeqAt.canLay_of_shaped sx) (room_in sx hr) (fin_bl I q rfl)
  · obtain ⟨bs, rb⟩ := dt_reads I hy.all (by simpa [PyData.canLay0] using sy) ry
    exact SeqAt.in_tuple_reads rb ra sy (SeqAt.canLay_of_shaped sx) (room_in sx hr) (fin_bl I q rfl)
theorem op_notInX {k : Nat} (hr : Room k X.A) : OpR X (compareOp .NotIn) (rInX X.K true) := by
  intro pins s σ H x y v u Q I rx ry h
  obtain ⟨O, dx, ds, dy, hx, hy, e, sx, sy, q⟩ := h
  obtain ⟨as, ra⟩ := dt_reads I hx.all (SeqAt.canLay_of_shaped sx) rx
  rcases e with e | e <;> subst e
  · obtain ⟨bs, rb⟩ := dt_reads I hy.all (by simpa [PyData.canLay0] using sy) ry
    exact SeqAt.notIn_list_reads rb ra sy (SeqAt.canLay_of_shaped sx) (room_in sx hr) (fin_bl I q rfl)
  · obtain ⟨bs, rb⟩ := dt_reads I hy.all (by simpa [PyData.canLay0] using sy) ry
    exact SeqAt.notIn_tuple_reads rb ra sy (SeqAt.canLay_of_shaped sx) (room_in sx hr) (fin_bl I q rfl)
def dInX (neg : Bool) : PyData → PyData → (PyData → Prop) → Prop := fun x y Q => ∃ ds, (y = .list ds ∨ y = .tuple ds) ∧ Shp x ∧ PyData.canLayAll0 ds = true ∧ Q (.bool (if neg then !(ds.any fun d => PyData.eqv d x) else ds.any fun d => PyData.eqv d x))
theorem od_inX {K : PySem.W.Frag} {neg : Bool} : OpD K (rInX K neg) (dInX neg) := fun H O x y dx dy Qd R _ hx hy ⟨ds, e, a, b, q⟩ k => ⟨O, dx, ds, dy, hx, hy, e, a, b, k _ _ H q (Same.refl _) (.bl _)⟩
/-! texts: len, <, in -/
def dLenT : List PyData → (PyData → Prop) → Prop := fun ds Q => ∃ z : Str, ds = [.str z] ∧ z.length ≤ sizeLine ∧ Q (.int z.length)
def dLtS : PyData → PyData → (PyData → Prop) → Prop := fun x y Q => ∃ i j : Str, x = .str i ∧ y = .str j ∧ Q (.bool (decide (i.cps.toList < j.cps.toList)))
def dInS : PyData → PyData → (PyData → Prop) → Prop := fun x y Q => ∃ i j : Str, x = .str i ∧ y = .str j ∧ Q (.bool (!(Builtin.Str.occurrences j i 0 j.length 1).isEmpty))
/-! the whole of a tuple -/
def rSlX (K : PySem.W.Frag) : V → Option Int → Option Int → Hp → VK → Prop := fun x lo hi H Q => ∃ a xs, x = .ref a ∧ SqT K H a xs ∧
  ((HT.sIx xs.length 0 lo = 0 ∧ HT.sIx xs.length xs.length hi = xs.length) → Q x H) ∧ (¬ (HT.sIx xs.length 0 lo = 0 ∧ HT.sIx xs.length xs.length hi = xs.length) → ∀ p, H p = none → Q (.ref p) (upd H p (.tup (cutV xs lo hi))))
def dSlX (t : DT) (tl th : DO) : DT := fun δ Q => t δ fun d => tl δ fun l => th δ fun u => ∃ xs, d = .tuple xs ∧ Q (.tuple (cutD xs l u))
/-! sorted, of texts -/
def leS (a b : Str) : Bool := decide (a.cps.toList ≤ b.cps.toList)
def sortS (l : List Str) : List Str := l.mergeSort leS
theorem leS_trans (a b c : Str) (h : leS a b = true) (h' : leS b c = true) : leS a c = true :=
  decide_eq_true (List.le_trans (of_decide_eq_true h) (of_decide_eq_true h'))
theorem leS_total (a b : Str) : (leS a b || leS b a) = true := by
  rcases List.le_total a.cps.toList b.cps.toList with h | h
  · unfold leS; rw [decide_eq_true h]; rfl
  · unfold leS; rw [decide_eq_true h, Bool.or_true]
theorem str_ext {a b : Str} (h : a.cps.toList = b.cps.toList) : a = b := by
  cases a; cases b; congr 1; exact Array.ext' h
theorem leS_anti {a b : Str} (h : leS a b = true) (h' : leS b a = true) : a = b := str_ext (List.le_antisymm (of_decide_eq_true h) (of_decide_eq_true h'))
theorem sortS_perm (l : List Str) : (sortS l).Perm l := List.mergeSort_perm l leS
theorem sortS_pw (l : List Str) : (sortS l).Pairwise fun a b => leS a b = true := List.pairwise_mergeSort leS_trans leS_total l
theorem sortS_uniq {l m : List Str} (h : m.Perm l) (p : m.Pairwise fun a b => leS a b = true) : m = sortS l :=
  List.Perm.eq_of_pairwise (fun a b _ _ x y => leS_anti x y) p (sortS_pw l) (h.trans (sortS_perm l).symm)
theorem pw_of_risingS : ∀ (p : Str) (l : List Str), risingS p l = true → (p :: l).Pairwise fun a b => leS a b = true
  | p, [], _ => by simp
  | p, x :: r, h => by
    rw [risingS, Bool.and_eq_true, Bool.not_eq_true', ltCps_eq, decide_eq_false_iff_not] at h
    have h1 : leS p x = true := decide_eq_true (List.not_lt.mp h.1)
    have h2 := pw_of_risingS x r h.2
    rw [List.pairwise_cons]
    refine ⟨fun y hy => ?_, h2⟩
    rcases List.mem_cons.mp hy with z | z
    · rw [z]; exact h1
    · exact leS_trans p x y h1 ((List.pairwise_cons.mp h2).1 y z)
theorem pw_of_sortedS : ∀ (l : List Str), sortedS l = true → l.Pairwise fun a b => leS a b = true
  | [], _ => .nil
  | x :: r, h => pw_of_risingS x r h
theorem vals_strs : ∀ {ys : List Str} {us : List Value}, Vals (ys.map V.str) us → StrsAre us ys := by
  intro ys
  induction ys with
  | nil => intro us rv; cases rv; exact .nil
  | cons y ys ih =>
    intro us rv
    rw [List.map_cons] at rv
    cases rv with
    | cons r1 r2 => obtain ⟨t, rfl⟩ := r1; exact .cons y t (ih r2)
theorem strs_vals : ∀ {ys : List Str} {us : List Value}, StrsAre us ys → Vals (ys.map V.str) us
  | _, _, .nil => .nil
  | _, _, .cons y t r => .cons ⟨t, rfl⟩ (strs_vals r)
theorem Dts.strs {K : PySem.W.Frag} {H : Hp} {O : Ex} : ∀ {ss : List Str} {vs : List V}, Dts K H O vs (ss.map PyData.str) → vs = ss.map V.str
  | [], _, r => by rw [List.map_nil] at r; cases r; rfl
  | b :: bs, _, r => by
    rw [List.map_cons] at r
    cases r with
    | cons h r => cases h; rw [List.map_cons, Dts.strs r]
theorem Dts.ofStrs {K : PySem.W.Frag} {H : Hp} {O : Ex} : ∀ (ss : List Str), Dts K H O (ss.map V.str) (ss.map PyData.str)
  | [] => .nil
  | s :: r => .cons (.str s) (Dts.ofStrs r)
def dSortS (t : DA) : DA := fun δ Q => t δ fun ds => ∃ ss : List Str, ds = [.list (ss.map .str)] ∧ ss.length < 64 ∧ Q ((sortS ss).map .str)
end
end L2

namespace PySem.SeqAt
open AutoSeq1 (wpAny_loadPart')
open MeetsSeq
theorem dict_eq_declines_str (l : Addr) (es : Array DictEntry) (n : Nat) (dd : Option Addr) (sl : Array (Option Value)) (b : Str) (u : Tok) :
    Meets (Builtin.«dict.__eq__» ⟨[.ref l, .str b u], []⟩) (fun _ R s => s.heap.get? l = some { cls := .type "dict", dict := dd, data := .dict es n, slots := sl } ∧ R (.ok (.ret .notImplemented)) s) :=
  .of_wp fun prog w A R s h => by obtain ⟨hp, g, d, tk, os⟩ := s; obtain ⟨hl, h⟩ := h; have f1 := F.sub_str_dict; wp_walk using wpAny_loadPart' hl; exact ⟨_, rfl, h⟩
theorem str_eq_declines_dict (b : Str) (u : Tok) (l : Addr) (c : Value) (es : Array DictEntry) (n : Nat) (dd : Option Addr) (sl : Array (Option Value)) :
    Meets (Builtin.«str.__eq__» ⟨[.str b u, .ref l], []⟩) (fun _ R s => s.heap.get? l = some { cls := c, dict := dd, data := .dict es n, slots := sl } ∧ R (.ok (.ret .notImplemented)) s) :=
  .of_wp fun prog w A R s h => by obtain ⟨hp, g, d, tk, os⟩ := s; obtain ⟨hl, h⟩ := h; wp_walk using wpAny_loadPart' hl, wpAny_load hl; exact ⟨_, rfl, h⟩
section
variable {A : Around} {s : Shared}
theorem RcAt.dict_str {l : Addr} {es : Array DictEntry} {n : Nat} {o : Obj} (b : Str) (u : Tok) (ho : s.heap.get? l = some o) (hc : o.cls = .type "dict") (hd : o.data = .dict es n) (hu : A.units < cLine) : RcAt A s (.ref l) (.str b u) false := fun prog w E Q h => by
  obtain ⟨cls, dd, data, sl⟩ := o
  simp only at hc hd
  subst hc hd
  exact rc_eq_decline_or (k := false) ⟨_, ho, rfl⟩ (typeIs_str s b u) (by decide) F.sub_str_dict F.slot_dict_eq F.slot_str_eq_refl
    (fun _ hq => call_meets F.slot_dict_eq ⟨_, ho, rfl⟩ F.entry_dict_eq (F.args_dict_eq_2 _ _) (dict_eq_declines_str l es n dd sl b u) ⟨ho, hq⟩)
    (fun _ hq => call_meets F.slot_str_eq_refl (typeIs_str s b u) F.entry_str_eq (F.args_str_eq_2 _ _) (str_eq_declines_dict b u l (.type "dict") es n dd sl) ⟨ho, hq⟩)
    (fun _ hq => wpAny_of_eq (rfl : isSame (.ref l) (.str b u) = pure false) hq) (.inr hu) h
end
end PySem.SeqAt
namespace L2
open PySem PySem.Spec PyProof.Rows PySem.W
section
variable {X : Cx} {pins : List (Addr × Obj)} {σ : St} {H : Hp} {s : Shared}
def isThing : PyData → Bool
  | .dict [(.none, _)] => false
  | _ => true
theorem thing_rc (I : Inv X pins σ H s) {O : Ex} {v : V} {d : PyData} {u : Value} (h : Dt X.K H O v d) (ht : isThing d = true) (r : RelV v u) (y : Str) (t : Tok) (hu : X.A.units < cLine) : SeqAt.RcAt X.A s u (.str y t) (PyData.eqv d (.str y)) := by
  cases h with
  | non => cases (show u = Value.none from r); simpa [PyData.eqv] using SeqAt.RcAt.none_str y t
  | bl b => cases (show u = Value.bool b from r); simpa [PyData.eqv] using SeqAt.RcAt.bool_str b y t
  | int i => obtain ⟨k, e⟩ := (show ∃ t, u = Value.int i t from r); cases e; simpa [PyData.eqv] using SeqAt.RcAt.int_str i k y t
  | str x => obtain ⟨k, e⟩ := (show ∃ t, u = Value.str x t from r); cases e; simpa [PyData.eqv] using SeqAt.RcAt.str_str x k y t
  | @tup a xs ds h n rr =>
    cases (show u = Value.ref a from r)
    obtain ⟨its, rv, p, _⟩ := I.tuple (.inl h)
    simpa [PyData.eqv] using SeqAt.RcAt.tuple_str y t (show s.heap.IsTuple a its.toArray from p) hu
  | @tupK a xs ds h rr =>
    cases (show u = Value.ref a from r)
    obtain ⟨its, rv, p, _⟩ := I.tuple h.of0
    simpa [PyData.eqv] using SeqAt.RcAt.tuple_str y t (show s.heap.IsTuple a its.toArray from p) hu
  | @lst a xs ds h n rr =>
    cases (show u = Value.ref a from r)
    obtain ⟨its, rv, p, _⟩ := I.list (.inl h)
    simpa [PyData.eqv] using SeqAt.RcAt.list_str y t p.isList hu
  | pack h n => exact absurd ht (by simp [isThing])
  | scr h r => exact absurd ht (by simp [isThing])
  | @dct0 a h n =>
    cases (show u = Value.ref a from r)
    obtain ⟨_, _, _, _, o, es, ep, e, c, dd, _⟩ := (show ObjOk X.prog X.w H s.heap a (.dK []) from I.hok a _ h)
    simpa [PyData.eqv] using SeqAt.RcAt.dict_str y t e c.1 dd hu
  | @dic a kv ks kp ds h e1 e2 n rr =>
    cases (show u = Value.ref a from r)
    obtain ⟨_, _, _, _, o, es, ep, e, c, dd, _⟩ := (show ObjOk X.prog X.w H s.heap a (.dK kv) from I.hok a _ h)
    simpa [PyData.eqv] using SeqAt.RcAt.dict_str y t e c.1 dd hu
end
section
variable {X : Cx} {H0 : Hp} {O0 : Ex}
/-- a thing == a text -/
def rEqZ (K : PySem.W.Frag) : R2 := fun x y H Q => ∃ O dx z, Dt K H O x dx ∧ isThing dx = true ∧ y = .str z ∧ Q (.bl (PyData.eqv dx (.str z))) H
theorem op_eqZ {k : Nat} (hr : Room k X.A) : OpR X (compareOp .Eq) (rEqZ X.K) := by
  intro pins s σ H x y v u Q I rx ry h
  obtain ⟨O, dx, z, hx, ht, rfl, q⟩ := h
  obtain ⟨t, rfl⟩ := ry
  have hc : compareOp .Eq v (.str z t) = richCompare .Eq v (.str z t) := rfl
  rw [hc]
  exact thing_rc I hx ht rx z t hr.units0 X.prog X.w X.xe _ (fin_bl I q rfl)
def dEqZ : PyData → PyData → (PyData → Prop) → Prop := fun x y Q => ∃ z, y = .str z ∧ isThing x = true ∧ Q (.bool (PyData.eqv x (.str z)))
theorem Sh.thing {K : PySem.W.Frag} {H : Hp} {O : Ex} {v : V} {d : PyData} (h : Sh K H O v d) : Dt K H (fun _ => False) v d := h.all
theorem od_eqZ {K : PySem.W.Frag} : OpD K (rEqZ K) dEqZ := fun H O x y dx dy Qd R _ hx hy ⟨z, e, ht, q⟩ k => by
  subst e; cases hy.str; exact ⟨_, dx, z, hx.all, ht, rfl, k _ _ H q (Same.refl _) (.bl _)⟩
/-- a thing in a tuple of texts -/
def rInZ (K : PySem.W.Frag) : R2 := fun x y H Q => ∃ (O : Ex) (dx : PyData) (zs : List Str) (a : Addr), Dt K H O x dx ∧ isThing dx = true ∧ y = .ref a ∧ SqT K H a (zs.map V.str) ∧ Q (.bl (zs.any fun z => PyData.eqv (.str z) dx)) H
def dInZ : PyData → PyData → (PyData → Prop) → Prop := fun x y Q => ∃ zs : List Str, y = .tuple (zs.map .str) ∧ isThing x = true ∧ Q (.bool (zs.any fun z => PyData.eqv (.str z) x))
end
end L2
namespace L2
open PySem
theorem take_iff {z : Int} {Q : PyData → Prop} : F_take [packD, .int z] Q ↔ (0 < z ∧ z ≤ 1000000 ∧ ∀ i : Int, 0 ≤ i → i < z → Q (.int i)) := by
  constructor
  · rintro ⟨z', e, a, b, c⟩
    simp only [List.cons.injEq, PyData.int.injEq, and_true, true_and] at e
    subst e; exact ⟨a, b, c⟩
  · rintro ⟨a, b, c⟩; exact ⟨z, rfl, a, b, c⟩
end L2

/-! names, rules and deeds, as data -/
namespace L2
open PySem PySem.Spec PyProof.Rows PySem.W
def isStrB : PyData → Bool | .str _ => true | _ => false
def isIntB : PyData → Bool | .int _ => true | .bool _ => true | _ => false
def isBoolB : PyData → Bool | .bool _ => true | _ => false
def isTupB : PyData → Bool | .tuple _ => true | _ => false
mutual
/-- things of any kind: their texts not too long, their dicts empty -/
def thg : PyData → Bool
  | .dict [] => true
  | .dict (_ :: _) => false
  | .str z => decide (z.length ≤ 1000)
  | .tuple l => thgs l
  | .list l => thgs l
  | .none => true
  | .bool _ => true
  | .int _ => true
def thgs : List PyData → Bool
  | [] => true
  | d :: r => thg d && thgs r
end
theorem thgs_all {l : List PyData} (h : ∀ d ∈ l, thg d = true) : thgs l = true := by
  induction l with
  | nil => rfl
  | cons e r ih => rw [thgs, h e (by simp), ih fun d hd => h d (by simp [hd])]; rfl
/-- one of these texts -/
def strIn (zs : List Str) (d : PyData) : Bool := zs.any fun z => PyData.eqv (.str z) d
def isWh : PyData → Bool | .int _ => true | _ => false
def isDy : PyData → Bool | .int i => decide (0 ≤ i) && decide (i ≤ 99999) | _ => false
def isNm : PyData → Bool | .str z => decide (1 ≤ z.length) && decide (z.length ≤ 8) && z.cps.toList.all (fun c => decide (c ∈ abc.cps.toList)) | _ => false
def isSn : PyData → Bool
  | .tuple [a] => PyData.eqv a (.str "coming")
  | .tuple [a, b] => strIn ["first", "last"] a && isNm b
  | _ => false
def isMn : PyData → Bool | .int i => decide (0 ≤ i) && decide (i ≤ 999) | _ => false
def isSpn (m u : PyData) : Bool := isMn m && strIn ["days", "months", "years"] u
def isRl : PyData → Bool
  | .tuple [a, b] => strIn ["while", "follow", "leave"] a && isNm b
  | .tuple [a, b, c, d, e] => strIn ["keep", "gone"] a && isNm b && (isSn c && isSpn d e)
  | _ => false
def ltD : PyData → PyData → Bool | .str a, .str b => decide (a.cps.toList < b.cps.toList) | _, _ => false
def riseD : List PyData → Bool
  | a :: b :: r => ltD a b && riseD (b :: r)
  | _ => true
def isMk : PyData → Bool | .tuple l => decide (l.length ≤ 4) && (l.all isNm && riseD l) | _ => false
def isTg : PyData → Bool | .tuple [a, b] => strIn ["paper", "kind"] a && isNm b | _ => false
def arePt (w : PyData) (ps : List PyData) : Bool :=
  if strIn ["end", "lift"] w then ps.length == 0
  else if strIn ["happens", "leave"] w then (match ps with | [a] => isNm a | _ => false)
  else if PyData.eqv w (.str "rule") then (match ps with | [a] => isRl a | _ => false)
  else if PyData.eqv w (.str "paper") then (match ps with | [a, b] => isNm a && isMk b | _ => false)
  else if PyData.eqv w (.str "hold") then (match ps with | [a, b] => isTg a && isBoolB b | _ => false)
  else false
def isDd : PyData → Bool
  | .tuple (w :: n :: x :: r) => isDy n && isNm x && arePt w r
  | _ => false
/-- a text of one to eight letters -/
structure Nm (z : Str) : Prop where
  lo : 1 ≤ z.length
  hi : z.length ≤ 8
  ab : ∀ c ∈ z.cps.toList, c ∈ abc.cps.toList
theorem Nm.is {z : Str} (h : Nm z) : isNm (.str z) = true := by
  simp only [isNm, decide_eq_true h.lo, decide_eq_true h.hi, Bool.true_and, List.all_eq_true, decide_eq_true_eq]
  exact h.ab
theorem nm_str {d : PyData} (h : isNm d = true) : ∃ z, d = .str z ∧ Nm z := by
  cases d with
  | str z =>
    simp only [isNm, Bool.and_eq_true, decide_eq_true_eq, List.all_eq_true] at h
    exact ⟨z, rfl, h.1.1, h.1.2, h.2⟩
  | _ => simp [isNm] at h
theorem Nm.ok {z : Str} (h : Nm z) : PyData.strOk z = true := strOk_iff.mpr fun c hc => abc_ok c (h.ab c hc)
/-! comprehensions -/
theorem strsE1 {a : Str} {P : List Str → Prop} : (∃ zs, [PyData.str a] = List.map PyData.str zs ∧ P zs) ↔ P [a] := by
  refine ⟨fun ⟨zs, e, h⟩ => ?_, fun h => ⟨_, rfl, h⟩⟩
  match zs, e with
  | [x], e => simp at e; rw [e]; exact h
theorem strsE2 {a b : Str} {P : List Str → Prop} : (∃ zs, [PyData.str a, PyData.str b] = List.map PyData.str zs ∧ P zs) ↔ P [a, b] := by
  refine ⟨fun ⟨zs, e, h⟩ => ?_, fun h => ⟨_, rfl, h⟩⟩
  match zs, e with
  | [x, y], e => simp at e; rw [e.1, e.2]; exact h
theorem strsE3 {a b c : Str} {P : List Str → Prop} : (∃ zs, [PyData.str a, PyData.str b, PyData.str c] = List.map PyData.str zs ∧ P zs) ↔ P [a, b, c] := by
  refine ⟨fun ⟨zs, e, h⟩ => ?_, fun h => ⟨_, rfl, h⟩⟩
  match zs, e with
  | [x, y, z], e => simp at e; rw [e.1, e.2.1, e.2.2]; exact h
def lenIs (d : PyData) (n : Int) : Bool := match d with | .tuple l => decide ((l.length : Int) = n) | _ => false
theorem thing_str {x : Str} : isThing (.str x) = true := rfl
theorem thing_int {x : Int} : isThing (.int x) = true := rfl
theorem thing_bool {x : Bool} : isThing (.bool x) = true := rfl
theorem thing_tup {x : List PyData} : isThing (.tuple x) = true := rfl
theorem thing_list {x : List PyData} : isThing (.list x) = true := rfl
/-! slices of texts -/
def cutN (xs : List Nat) (l u : Option Int) : List Nat := (xs.drop (HT.sIx xs.length 0 l)).take (HT.sIx xs.length xs.length u - HT.sIx xs.length 0 l)
theorem len_cps (x : Str) : x.length = x.cps.toList.length := by rw [Array.length_toList]; rfl
theorem Nm.of {z : Str} {l : List Nat} (e : z.cps.toList = l) (lo : 1 ≤ l.length) (hi : l.length ≤ 8) (ab : ∀ c ∈ l, c ∈ abc.cps.toList) : Nm z :=
  ⟨by rw [len_cps, e]; exact lo, by rw [len_cps, e]; exact hi, by rw [e]; exact ab⟩
end L2

/-! what names, rules and deeds are, laid open -/
namespace L2
open PySem PySem.Spec PyProof.Rows PySem.W
theorem eqv_str_iff {z : Str} {d : PyData} : PyData.eqv (.str z) d = true ↔ d = .str z := by
  cases d <;> simp [PyData.eqv]
  exact ⟨fun h => h.symm, fun h => h.symm⟩
theorem eqv_iff_str {z : Str} {d : PyData} : PyData.eqv d (.str z) = true ↔ d = .str z := by rw [eqv_comm]; exact eqv_str_iff
theorem strIn_iff {zs : List Str} {d : PyData} : strIn zs d = true ↔ ∃ z ∈ zs, d = .str z := by
  unfold strIn; simp only [List.any_eq_true, eqv_str_iff]
def ltS (a b : Str) : Prop := a.cps.toList < b.cps.toList
theorem ltS_trans {a b c : Str} (h : ltS a b) (h' : ltS b c) : ltS a c := List.lt_trans h h'
inductive SinceV : PyData → Prop
  | coming : SinceV (.tuple [.str "coming"])
  | first {h : Str} : Nm h → SinceV (.tuple [.str "first", .str h])
  | last {h : Str} : Nm h → SinceV (.tuple [.str "last", .str h])
def units : List Str := ["days", "months", "years"]
inductive RuleV : PyData → Prop
  | kg {w k u : Str} {s : PyData} {m : Int} : w ∈ (["keep", "gone"] : List Str) → Nm k → SinceV s → 0 ≤ m → m ≤ 999 → u ∈ units → RuleV (.tuple [.str w, .str k, s, .int m, .str u])
  | wfl {w k : Str} : w ∈ (["while", "follow", "leave"] : List Str) → Nm k → RuleV (.tuple [.str w, .str k])
def isDayN (n : Int) : Prop := 0 ≤ n ∧ n ≤ 99999
structure Mks (ms : List Str) : Prop where
  len : ms.length ≤ 4
  nm : ∀ m ∈ ms, Nm m
  up : ms.Pairwise ltS
inductive DeedV : PyData → Prop
  | paper {n : Int} {x k : Str} {ms : List Str} : isDayN n → Nm x → Nm k → Mks ms → DeedV (.tuple [.str "paper", .int n, .str x, .str k, .tuple (ms.map .str)])
  | two {w x y : Str} {n : Int} : w ∈ (["happens", "leave"] : List Str) → isDayN n → Nm x → Nm y → DeedV (.tuple [.str w, .int n, .str x, .str y])
  | rule {n : Int} {x : Str} {p : PyData} : isDayN n → Nm x → RuleV p → DeedV (.tuple [.str "rule", .int n, .str x, p])
  | one {w x : Str} {n : Int} : w ∈ (["end", "lift"] : List Str) → isDayN n → Nm x → DeedV (.tuple [.str w, .int n, .str x])
  | hold {n : Int} {x g y : Str} {b : Bool} : isDayN n → Nm x → g ∈ (["paper", "kind"] : List Str) → Nm y → DeedV (.tuple [.str "hold", .int n, .str x, .tuple [.str g, .str y], .bool b])
/-! each way -/
theorem isSn_iff {d : PyData} : isSn d = true ↔ SinceV d := by
  constructor
  · intro h
    unfold isSn at h
    split at h
    · rw [eqv_iff_str] at h; subst h; exact .coming
    · rw [Bool.and_eq_true, strIn_iff] at h
      obtain ⟨⟨z, hz, rfl⟩, hb⟩ := h
      obtain ⟨y, rfl, hy⟩ := nm_str hb
      simp only [List.mem_cons, List.not_mem_nil, or_false] at hz
      rcases hz with rfl | rfl
      · exact .first hy
      · exact .last hy
    · cases h
  · intro h
    cases h with
    | coming => unfold isSn; rw [eqv_iff_str]
    | first hy => simp only [isSn, hy.is, Bool.and_true]; exact strIn_iff.mpr ⟨_, by simp, rfl⟩
    | last hy => simp only [isSn, hy.is, Bool.and_true]; exact strIn_iff.mpr ⟨_, by simp, rfl⟩
theorem isSpn_iff {m u : PyData} : isSpn m u = true ↔ ∃ i z, m = .int i ∧ u = .str z ∧ 0 ≤ i ∧ i ≤ 999 ∧ z ∈ units := by
  unfold isSpn
  rw [Bool.and_eq_true, strIn_iff]
  constructor
  · rintro ⟨h, z, hz, rfl⟩
    cases m <;> simp [isMn] at h
    exact ⟨_, z, rfl, rfl, h.1, h.2, hz⟩
  · rintro ⟨i, z, rfl, rfl, h0, h1, hz⟩
    exact ⟨by simp [isMn, h0, h1], z, hz, rfl⟩
theorem isRl_iff {d : PyData} : isRl d = true ↔ RuleV d := by
  constructor
  · intro h
    unfold isRl at h
    split at h
    · rw [Bool.and_eq_true, strIn_iff] at h
      obtain ⟨⟨z, hz, rfl⟩, hb⟩ := h
      obtain ⟨y, rfl, hy⟩ := nm_str hb
      exact .wfl hz hy
    · rw [Bool.and_eq_true, Bool.and_eq_true, Bool.and_eq_true, strIn_iff, isSn_iff, isSpn_iff] at h
      obtain ⟨⟨⟨z, hz, rfl⟩, hb⟩, hs, i, u, rfl, rfl, h0, h1, hu⟩ := h
      obtain ⟨y, rfl, hy⟩ := nm_str hb
      exact .kg hz hy hs h0 h1 hu
    · cases h
  · intro h
    cases h with
    | kg hw hk hs h0 h1 hu =>
      simp only [isRl, hk.is, isSn_iff.mpr hs, isSpn_iff.mpr ⟨_, _, rfl, rfl, h0, h1, hu⟩, Bool.and_true]
      exact strIn_iff.mpr ⟨_, hw, rfl⟩
    | wfl hw hk => simp only [isRl, hk.is, Bool.and_true]; exact strIn_iff.mpr ⟨_, hw, rfl⟩
theorem riseD_iff : ∀ {ms : List Str}, riseD (ms.map .str) = true ↔ ms.Pairwise ltS
  | [] => by simp [riseD]
  | [a] => by simp [riseD]
  | a :: b :: r => by
    have ih := riseD_iff (ms := b :: r)
    rw [List.map_cons, List.map_cons, riseD, Bool.and_eq_true, ← List.map_cons, ih]
    simp only [ltD, decide_eq_true_eq]
    constructor
    · rintro ⟨h1, h2⟩
      rw [List.pairwise_cons]
      refine ⟨fun y hy => ?_, h2⟩
      rcases List.mem_cons.mp hy with z | z
      · rw [z]; exact h1
      · exact ltS_trans h1 ((List.pairwise_cons.mp h2).1 y z)
    · intro h
      rw [List.pairwise_cons] at h
      exact ⟨h.1 b (by simp), h.2⟩
theorem nms_strs : ∀ {l : List PyData}, l.all isNm = true → ∃ ms : List Str, l = ms.map .str ∧ ∀ m ∈ ms, Nm m
  | [], _ => ⟨[], rfl, by simp⟩
  | d :: r, h => by
    rw [List.all_cons, Bool.and_eq_true] at h
    obtain ⟨z, rfl, hz⟩ := nm_str h.1
    obtain ⟨ms, rfl, hm⟩ := nms_strs h.2
    exact ⟨z :: ms, rfl, fun m hm' => by
      rcases List.mem_cons.mp hm' with e | e
      · rw [e]; exact hz
      · exact hm m e⟩
theorem isMk_iff {d : PyData} : isMk d = true ↔ ∃ ms : List Str, d = .tuple (ms.map .str) ∧ Mks ms := by
  constructor
  · intro h
    unfold isMk at h
    split at h
    · rw [Bool.and_eq_true, Bool.and_eq_true, decide_eq_true_eq] at h
      obtain ⟨h4, ha, hr⟩ := h
      obtain ⟨ms, rfl, hm⟩ := nms_strs ha
      exact ⟨ms, rfl, by simpa using h4, hm, riseD_iff.mp hr⟩
    · cases h
  · rintro ⟨ms, rfl, h⟩
    simp only [isMk, List.length_map, decide_eq_true h.len, riseD_iff.mpr h.up, Bool.and_true, Bool.true_and, List.all_map, List.all_eq_true]
    exact fun m hm => (h.nm m hm).is
theorem isTg_iff {d : PyData} : isTg d = true ↔ ∃ g y, d = .tuple [.str g, .str y] ∧ g ∈ (["paper", "kind"] : List Str) ∧ Nm y := by
  constructor
  · intro h
    unfold isTg at h
    split at h
    · rw [Bool.and_eq_true, strIn_iff] at h
      obtain ⟨⟨z, hz, rfl⟩, hb⟩ := h
      obtain ⟨y, rfl, hy⟩ := nm_str hb
      exact ⟨z, y, rfl, hz, hy⟩
    · cases h
  · rintro ⟨g, y, rfl, hg, hy⟩
    simp only [isTg, hy.is, Bool.and_true]; exact strIn_iff.mpr ⟨_, hg, rfl⟩
theorem isDy_iff {d : PyData} : isDy d = true ↔ ∃ n, d = .int n ∧ isDayN n := by
  constructor
  · intro h
    cases d <;> simp [isDy] at h
    exact ⟨_, rfl, h.1, h.2⟩
  · rintro ⟨n, rfl, h0, h1⟩; simp [isDy, h0, h1]
theorem DeedV.is {d : PyData} (h : DeedV d) : isDd d = true := by
  have dy : ∀ {n : Int}, isDayN n → isDy (.int n) = true := fun h => isDy_iff.mpr ⟨_, rfl, h⟩
  have no : ∀ {zs : List Str} {w : Str}, w ∉ zs → strIn zs (.str w) = false := fun {zs w} h => by
    rw [Bool.eq_false_iff]; intro q
    obtain ⟨z, hz, e⟩ := strIn_iff.mp q
    injection e with e; rw [e] at h; exact h hz
  have ye : ∀ {zs : List Str} {w : Str}, w ∈ zs → strIn zs (.str w) = true := fun h => strIn_iff.mpr ⟨_, h, rfl⟩
  have nq : ∀ {z w : Str}, w ≠ z → PyData.eqv (.str w) (.str z) = false := fun {z w} h => by rw [eqv_str]; simpa using h
  have yq : ∀ {z : Str}, PyData.eqv (.str z) (.str z) = true := by intro z; rw [eqv_str]; simp
  cases h with
  | paper hn hx hk hm =>
    simp only [isDd, dy hn, hx.is, Bool.and_true, Bool.true_and, arePt]
    rw [if_neg (by rw [no (by decide +kernel)]; decide), if_neg (by rw [no (by decide +kernel)]; decide), if_neg (by rw [nq (by decide +kernel)]; decide), if_pos yq]
    simp only [hk.is, isMk_iff.mpr ⟨_, rfl, hm⟩, Bool.and_true]
  | two hw hn hx hy =>
    simp only [isDd, dy hn, hx.is, Bool.and_true, Bool.true_and, arePt]
    rename_i w x y n
    have h1 : w ∉ (["end", "lift"] : List Str) := by
      simp only [List.mem_cons, List.not_mem_nil, or_false] at hw
      rcases hw with rfl | rfl <;> decide +kernel
    rw [if_neg (by rw [no h1]; decide), if_pos (ye hw)]
    exact hy.is
  | rule hn hx hp =>
    simp only [isDd, dy hn, hx.is, Bool.and_true, Bool.true_and, arePt]
    rw [if_neg (by rw [no (by decide +kernel)]; decide), if_neg (by rw [no (by decide +kernel)]; decide), if_pos yq]
    exact isRl_iff.mpr hp
  | one hw hn hx =>
    simp only [isDd, dy hn, hx.is, Bool.and_true, Bool.true_and, arePt]
    rw [if_pos (ye hw)]; rfl
  | hold hn hx hg hy =>
    simp only [isDd, dy hn, hx.is, Bool.and_true, Bool.true_and, arePt]
    rw [if_neg (by rw [no (by decide +kernel)]; decide), if_neg (by rw [no (by decide +kernel)]; decide), if_neg (by rw [nq (by decide +kernel)]; decide), if_neg (by rw [nq (by decide +kernel)]; decide), if_pos yq]
    simp only [isTg_iff.mpr ⟨_, _, rfl, hg, hy⟩, isBoolB, Bool.and_true]
/-! what may be compared -/
theorem lay_nil {n : Nat} : ∀ d ∈ ([] : List PyData), Lay n d := fun d hd => by simp at hd
theorem lay_cons {n : Nat} {d : PyData} {r : List PyData} (h : Lay n d) (hr : ∀ e ∈ r, Lay n e) : ∀ e ∈ d :: r, Lay n e := fun e he => by
  rcases List.mem_cons.mp he with z | z
  · rw [z]; exact h
  · exact hr e z
theorem layS1 {n : Nat} {x : Str} (h : PyData.strOk x = true) (hn : 1 ≤ n := by decide) : Lay n (.str x) := (lay_str h).mono hn
theorem layI1 {n : Nat} {x : Int} (hn : 1 ≤ n := by decide) : Lay n (.int x) := lay_int.mono hn
theorem layB1 {n : Nat} {x : Bool} (hn : 1 ≤ n := by decide) : Lay n (.bool x) := lay_bool.mono hn
theorem lay_strs {n : Nat} {ms : List Str} (h : ∀ m ∈ ms, PyData.strOk m = true) (hn : 1 ≤ n := by decide) : ∀ d ∈ ms.map PyData.str, Lay n d := fun d hd => by
  obtain ⟨m, hm, rfl⟩ := List.mem_map.mp hd
  exact (lay_str (h m hm)).mono hn
theorem SinceV.lay {d : PyData} (h : SinceV d) : Lay 2 d := by
  cases h with
  | coming => exact lay_tup (lay_cons (layS1 (by decide +kernel)) lay_nil)
  | first h => exact lay_tup (lay_cons (layS1 (by decide +kernel)) (lay_cons (layS1 h.ok) lay_nil))
  | last h => exact lay_tup (lay_cons (layS1 (by decide +kernel)) (lay_cons (layS1 h.ok) lay_nil))
theorem ok_of {zs : List Str} {w : Str} (h : w ∈ zs) (hz : ∀ z ∈ zs, PyData.strOk z = true ∧ z.length ≤ 1000) : PyData.strOk w = true ∧ w.length ≤ 1000 := hz w h
theorem RuleV.lay {d : PyData} (h : RuleV d) : Lay 3 d := by
  cases h with
  | kg hw hk hs _ _ hu => exact lay_tup (lay_cons (layS1 (ok_of hw (by decide +kernel)).1) (lay_cons (layS1 hk.ok) (lay_cons hs.lay (lay_cons layI1 (lay_cons (layS1 (ok_of hu (by decide +kernel)).1) lay_nil)))))
  | wfl hw hk => exact (lay_tup (n := 1) (lay_cons (layS1 (ok_of hw (by decide +kernel)).1) (lay_cons (layS1 hk.ok) lay_nil))).mono (by decide)
theorem DeedV.lay {d : PyData} (h : DeedV d) : Lay 4 d := by
  cases h with
  | paper hn hx hk hm => exact lay_tup (lay_cons (layS1 (by decide +kernel)) (lay_cons layI1 (lay_cons (layS1 hx.ok) (lay_cons (layS1 hk.ok) (lay_cons ((lay_tup (n := 1) (lay_strs fun m h => (hm.nm m h).ok)).mono (by decide)) lay_nil)))))
  | two hw hn hx hy => exact lay_tup (lay_cons (layS1 (ok_of hw (by decide +kernel)).1) (lay_cons layI1 (lay_cons (layS1 hx.ok) (lay_cons (layS1 hy.ok) lay_nil))))
  | rule hn hx hp => exact lay_tup (lay_cons (layS1 (by decide +kernel)) (lay_cons layI1 (lay_cons (layS1 hx.ok) (lay_cons hp.lay lay_nil))))
  | one hw hn hx => exact lay_tup (lay_cons (layS1 (ok_of hw (by decide +kernel)).1) (lay_cons layI1 (lay_cons (layS1 hx.ok) lay_nil)))
  | hold hn hx hg hy => exact lay_tup (lay_cons (layS1 (by decide +kernel)) (lay_cons layI1 (lay_cons (layS1 hx.ok) (lay_cons ((lay_tup (n := 1) (lay_cons (layS1 (ok_of hg (by decide +kernel)).1) (lay_cons (layS1 hy.ok) lay_nil))).mono (by decide)) (lay_cons layB1 lay_nil)))))
theorem DeedV.shp {d : PyData} (h : DeedV d) : Shp d := h.lay.shp (by decide)
/-! things -/
theorem thgC {d : PyData} {r : List PyData} (h : thg d = true) (hr : thgs r = true) : thgs (d :: r) = true := by rw [thgs, h, hr]; rfl
theorem thgT {r : List PyData} (hr : thgs r = true) : thg (.tuple r) = true := by rw [thg]; exact hr
theorem Nm.thg {z : Str} (h : Nm z) : thg (.str z) = true := by rw [L2.thg]; exact decide_eq_true (Nat.le_trans h.hi (by decide))
theorem thg_lit {z : Str} (h : z.length ≤ 1000) : thg (.str z) = true := by rw [thg]; exact decide_eq_true h
theorem thgI {i : Int} : thg (.int i) = true := by rw [thg]
theorem thgB {i : Bool} : thg (.bool i) = true := by rw [thg]
theorem thgs_strs {ms : List Str} (h : ∀ m ∈ ms, Nm m) : thgs (ms.map .str) = true := thgs_all fun d hd => by
  obtain ⟨m, hm, rfl⟩ := List.mem_map.mp hd; exact (h m hm).thg
theorem SinceV.thg {d : PyData} (h : SinceV d) : L2.thg d = true := by
  cases h with
  | coming => exact thgT (thgC (thg_lit (by decide +kernel)) rfl)
  | first h => exact thgT (thgC (thg_lit (by decide +kernel)) (thgC h.thg rfl))
  | last h => exact thgT (thgC (thg_lit (by decide +kernel)) (thgC h.thg rfl))
theorem RuleV.thg {d : PyData} (h : RuleV d) : L2.thg d = true := by
  cases h with
  | kg hw hk hs _ _ hu => exact thgT (thgC (thg_lit (ok_of hw (by decide +kernel)).2) (thgC hk.thg (thgC hs.thg (thgC thgI (thgC (thg_lit (ok_of hu (by decide +kernel)).2) rfl)))))
  | wfl hw hk => exact thgT (thgC (thg_lit (ok_of hw (by decide +kernel)).2) (thgC hk.thg rfl))
theorem DeedV.thg {d : PyData} (h : DeedV d) : L2.thg d = true := by
  cases h with
  | paper hn hx hk hm => exact thgT (thgC (thg_lit (by decide +kernel)) (thgC thgI (thgC hx.thg (thgC hk.thg (thgC (thgT (thgs_strs hm.nm)) rfl)))))
  | two hw hn hx hy => exact thgT (thgC (thg_lit (ok_of hw (by decide +kernel)).2) (thgC thgI (thgC hx.thg (thgC hy.thg rfl))))
  | rule hn hx hp => exact thgT (thgC (thg_lit (by decide +kernel)) (thgC thgI (thgC hx.thg (thgC hp.thg rfl))))
  | one hw hn hx => exact thgT (thgC (thg_lit (ok_of hw (by decide +kernel)).2) (thgC thgI (thgC hx.thg rfl)))
  | hold hn hx hg hy => exact thgT (thgC (thg_lit (by decide +kernel)) (thgC thgI (thgC hx.thg (thgC (thgT (thgC (thg_lit (ok_of hg (by decide +kernel)).2) (thgC hy.thg rfl))) (thgC thgB rfl)))))
/-! slices of what is laid open -/
theorem cD_1n {a : PyData} {l : List PyData} : cutD (a :: l) (some 1) none = l := by
  rw [cutD_drop (by decide) (by simp only [List.length_cons]; omega)]; rfl
theorem cD_2n {a b : PyData} {l : List PyData} : cutD (a :: b :: l) (some 2) none = l := by
  rw [cutD_drop (by decide) (by simp only [List.length_cons]; omega)]; rfl
theorem cD_3n {a b c : PyData} {l : List PyData} : cutD (a :: b :: c :: l) (some 3) none = l := by
  rw [cutD_drop (by decide) (by simp only [List.length_cons]; omega)]; rfl
theorem cD_4n {a b c d : PyData} {l : List PyData} : cutD (a :: b :: c :: d :: l) (some 4) none = l := by
  rw [cutD_drop (by decide) (by simp only [List.length_cons]; omega)]; rfl
theorem cD_n1 {a : PyData} {l : List PyData} : cutD (a :: l) none (some 1) = [a] := by
  rw [cutD_take (by decide) (by simp only [List.length_cons]; omega)]; rfl
theorem cD_n2 {a b : PyData} {l : List PyData} : cutD (a :: b :: l) none (some 2) = [a, b] := by
  rw [cutD_take (by decide) (by simp only [List.length_cons]; omega)]; rfl
theorem cD_n3 {a b c : PyData} {l : List PyData} : cutD (a :: b :: c :: l) none (some 3) = [a, b, c] := by
  rw [cutD_take (by decide) (by simp only [List.length_cons]; omega)]; rfl
theorem cD_n4 {a b c d : PyData} {l : List PyData} : cutD (a :: b :: c :: d :: l) none (some 4) = [a, b, c, d] := by
  rw [cutD_take (by decide) (by simp only [List.length_cons]; omega)]; rfl
theorem cD_13 {a b c : PyData} {l : List PyData} : cutD (a :: b :: c :: l) (some 1) (some 3) = [b, c] := by
  unfold cutD
  rw [sIx_in (by decide) (by simp only [List.length_cons]; omega), sIx_in (by decide) (by simp only [List.length_cons]; omega)]
  rfl
end L2

namespace PySem
open Builtin
open AutoSeq1 (wpAny_loadPart')
end PySem
namespace L2
open PySem PySem.Spec PyProof.Rows PySem.W
section
variable {X : Cx} {H0 : Hp} {O0 : Ex}
/-! a tuple twice -/
def rRepT (K : PySem.W.Frag) : R2 := fun x y H Q => ∃ a xs, x = .ref a ∧ y = .int 2 ∧ SqT K H a xs ∧ xs ≠ [] ∧ xs.length ≤ 1000 ∧ ∀ p, H p = none → Q (.ref p) (upd H p (.tup (xs ++ xs)))
def dRepT : PyData → PyData → (PyData → Prop) → Prop := fun x y Q => ∃ xs, x = .tuple xs ∧ y = .int 2 ∧ xs ≠ [] ∧ xs.length ≤ 1000 ∧ Q (.tuple (xs ++ xs))
/-! {} , -i, upper -/
def dDct0 : DT := fun _ Q => Q (.dict [])
def dNeg (t : DT) : DT := fun δ Q => t δ fun d => ∃ i, d = .int i ∧ Q (.int (-i))
theorem de_neg {e : Expr} {t : DT} {pos : Pos} (h : DE X H0 O0 e t) : DE X H0 O0 (.UnaryOp .USub e pos) (dNeg t) :=
  (pe_un un_neg h).imp fun σ H Q ⟨O, δ, Qd, w, q, k⟩ => ⟨O, δ, _, w, q, fun d v H1 ⟨i, e, q1⟩ s1 r1 => by subst e; cases r1; exact ⟨i, rfl, k _ _ H1 q1 s1 (.int _)⟩⟩
def dUpper (t : DT) : DT := fun δ Q => t δ fun d => ∃ z : Str, d = .str z ∧ z.length ≤ 1000000 ∧ Q (.str (Txt.upper z))
end
/-! t[::-1] -/
theorem adjust_rev (n : Nat) : Builtin.Slice.sliceAdjust none none (-1) (n : Int) = ((n : Int) - 1, -1) := by
  unfold Builtin.Slice.sliceAdjust; rfl
theorem places_rev (n : Nat) : Builtin.Slice.slicePlaces ((n : Int) - 1) (-1) (-1) = n := by
  unfold Builtin.Slice.slicePlaces
  rw [if_neg (by decide)]
  split
  · rw [show (- -1 : Int) = 1 by decide, Int.ediv_one]; omega
  · omega
theorem pick_rev (xs : Array Value) : ((List.range xs.size).filterMap fun (m : Nat) => xs[((xs.size : Int) - 1 + (m : Int) * (-1)).toNat]?).toArray = xs.toList.reverse.toArray := by
  have e : (List.range xs.size).filterMap (fun (m : Nat) => xs[((xs.size : Int) - 1 + (m : Int) * (-1)).toNat]?) = ((List.range xs.size).map fun k => xs.size - 1 - k).filterMap (xs[·]?) := by
    have e2 : ((List.range xs.size).map fun k => xs.size - 1 - k) = (List.range xs.size).map fun (m : Nat) => ((xs.size : Int) - 1 + (m : Int) * (-1)).toNat :=
      List.map_congr_left fun m hm => by have := List.mem_range.mp hm; omega
    rw [e2, List.filterMap_map]; rfl
  have k := krv_pick xs
  unfold slicePick at k
  rw [krv_bounds] at k
  have k2 : ((sliceRange ((xs.size : Int) - 1) (-1) (-1)).filterMap (xs[·]?)).toArray = xs.toList.reverse.toArray := k
  rw [krv_sliceRange] at k2
  rw [e]; exact k2
theorem sliceApplied_rev {prog : Program} {w : World} {A : Around} {E : Value → Shared → Prop} {s : Shared} {sl : Addr} {tk : Tok} {n : Nat} {Q : Int × Int × Nat → Shared → Prop} (hs : s.heap.IsSliceOf sl .none .none (.int (-1) tk))
    (h : Q ((n : Int) - 1, -1, n) s) : wpAny (model prog w) A (Builtin.Slice.sliceApplied (.ref sl) (pure (n : Int))) Q E s := by
  obtain ⟨os, hos, hcs, hds⟩ := id hs
  unfold Builtin.Slice.sliceApplied Builtin.Slice.sliceFields
  refine wpAny_bind (wpAny_bind (wpAny_field hos hds (x := .none) rfl (wpAny_bind (wpAny_field hos hds (x := .none) rfl (wpAny_bind (wpAny_field hos hds (x := .int (-1) tk) rfl (wpAny_pure ?_)))))))
  refine wpAny_bind (slicePart_int ?_)
  show wpAny _ _ (if ((-1 : Int) == 0) = true then _ else _) _ _ s
  rw [if_neg (by decide)]
  refine wpAny_bind (slicePart_none (wpAny_bind (slicePart_none (wpAny_bind (wpAny_pure ?_)))))
  show wpAny _ _ (match Builtin.Slice.sliceAdjust none none (-1) (n : Int) with | (lo, hi) => pure (lo, (-1 : Int), Builtin.Slice.slicePlaces lo hi (-1))) _ _ s
  rw [adjust_rev]
  show wpAny _ _ (pure ((n : Int) - 1, (-1 : Int), Builtin.Slice.slicePlaces ((n : Int) - 1) (-1) (-1))) _ _ s
  rw [places_rev]
  exact wpAny_pure h
theorem getItem_tuple_rev {prog : Program} {w : World} {A : Around} {E : Value → Shared → Prop} {s : Shared} {t sl : Addr} {items : Array Value} {tk : Tok} {Q : Value → Shared → Prop} (ht : IsTup s.heap t items) (hs : s.heap.IsSliceOf sl .none .none (.int (-1) tk)) (hz : items.size ≤ sizeLine)
    (h : Q (.ref s.heap.objs.size) { s with heap := s.heap.push { cls := .type "tuple", data := .seq items.toList.reverse.toArray } }) : wpAny (model prog w) A (getItem (.ref t) (.ref sl)) Q E s := by
  have htake : sizeOk (.seq items.toList.reverse.toArray) := by
    show items.toList.reverse.toArray.size ≤ sizeLine
    rw [List.size_toArray, List.length_reverse, Array.length_toList]; exact hz
  obtain ⟨os, hos, hcs, hds⟩ := id hs
  have hTs : s.TypeIs (.ref sl) "slice" := ⟨os, hos, hcs⟩
  unfold getItem
  try with_reducible refine wpAny_holding ?_
  first | refine wpAny_bind (wpAny_pure ?_) | skip
  refine wpAny_bind (wpAny_sequenceKey ht.typeIs (by decide) ?_)
  refine wpAny_bind (wpAny_callSpecial?_slot (name := Str.ofString "__getitem__") ht.typeIs PyProof.Rows.slot_tuple_getitem
    (wpAny_call_entry PyProof.Rows.slot_tuple_getitem ht.typeIs PyProof.Rows.entry_tuple_getitem ?_ (PyProof.Rows.args_tuple_getitem _ _)))
  show wpAny _ _ (Builtin.Tuple.tupleItemsOf (.ref t) >>= _) _ _ s
  refine wpAny_bind (tupleItemsOf_ ht ?_)
  refine wpAny_bind (wpAny_typeOf hTs ?_)
  rw [if_pos (by decide)]
  refine wpAny_bind (sliceApplied_rev hs ?_)
  show wpAny _ _ (if (((items.size : Int) - 1) == 0 && (-1 : Int) == 1 && items.size == items.size) = true then _ else _) _ _ s
  rw [if_neg (by simp), pick_rev]
  first
    | exact wpAny_bind (m := Builtin.Tuple.tupleExact _) (wpAny_newObj_type (wpAny_pure ⟨_, rfl, wpAny_pure h⟩) htake)
    | exact wpAny_bind (m := Builtin.Tuple.tupleExact _) (wpAny_newObj_type (wpAny_bind (wpAny_pure (wpAny_pure ⟨_, rfl, wpAny_pure h⟩))) htake)
    | exact wpAny_bind (wpAny_bind (m := Builtin.Tuple.tupleExact _) (wpAny_newObj_type (wpAny_pure (wpAny_pure ⟨_, rfl, wpAny_pure h⟩)) htake))
    | exact wpAny_bind (wpAny_bind (m := Builtin.Tuple.tupleExact _) (wpAny_newObj_type (wpAny_pure ⟨_, rfl, wpAny_pure h⟩) htake))
section
variable {X : Cx} {H0 : Hp} {O0 : Ex}
theorem pe_revT {e : Expr} {te : TE} {pos p2 up cp : Pos} {j} (he : PE X e te) : PE X (.Subscript e (.Slice none none (some (.UnaryOp .USub (.Constant (.int 1) j cp) up)) p2) pos) (fun σ H Q => te σ H fun x H1 => ∃ a xs, x = .ref a ∧ SqT X.K H1 a xs ∧ ∀ p, H1 p = none → Q (.ref p) (upd H1 p (.tup xs.reverse))) := by
  intro pins s σ H Q I h
  refine Subscript_ (thn (he pins s σ H _ I h) fun v s1 ⟨x, H1, I1, r1, q1⟩ => ?_)
  obtain ⟨a, xs, rfl, hq, q⟩ := q1
  cases r1
  refine wpAny_Slice ?_
  rw [evalPart_none]
  refine wpAny_pure (wpAny_pure ?_)
  rw [evalPart_some]
  refine thn (pe_un un_neg pe_int pins s1 σ H1 (fun x H2 => x = .int (-1) ∧ H2 = H1) I1 ⟨1, rfl, rfl, rfl⟩) fun vk s3 ⟨x3, H3, I3, r3, e3, e4⟩ => ?_
  subst e3 e4
  obtain ⟨tk, rfl⟩ := r3
  have I4 : Inv X pins σ H3 { s3 with heap := s3.heap.push { cls := .type "slice", data := .fields #[.none, .none, .int (-1) tk] } } := I3.kept (t' := s3.toks) fun b ob q => Heap.get?_push_of_some _ q
  show wpAny (model X.prog X.w) X.A (subscriptTail e (.Slice none none (some (.UnaryOp .USub (.Constant (.int 1) j cp) up)) p2) (.ref a) (.ref s3.heap.objs.size)) (EP X pins σ Q) X.xe { s3 with heap := s3.heap.push { cls := .type "slice", data := .fields #[.none, .none, .int (-1) tk] } }
  obtain ⟨its, r, ht, hz⟩ := I4.tuple hq
  have hlen := r.length
  refine tail_any (ops := [.ref a, .ref s3.heap.objs.size]) ht.typeIs PyProof.Rows.slot_tuple_getitem.lookup ?_ (by with_unfolding_all rfl)
  refine getItem_tuple_rev ht (Heap.IsSliceOf.new ..) (by rw [List.size_toArray]; omega) ?_
  refine ⟨.ref _, _, I4.laid (t' := s3.toks) (o := .tup xs.reverse) (fun b ob q => Heap.get?_push_of_some _ q) (Nat.le_refl _) ?_, rfl, q _ (I4.hok.fresh (Nat.le_refl _))⟩
  exact ⟨by rw [List.length_reverse]; exact hz, _, (show Vals xs.reverse its.reverse from vals_rev r), IsTup.new _ _⟩
def dRevT (t : DT) : DT := fun δ Q => t δ fun d => ∃ xs, d = .tuple xs ∧ Q (.tuple xs.reverse)
theorem de_revT {e : Expr} {t : DT} {pos p2 up cp : Pos} {j} (h : DF X H0 O0 e t) : DE X H0 O0 (.Subscript e (.Slice none none (some (.UnaryOp .USub (.Constant (.int 1) j cp) up)) p2) pos) (dRevT t) :=
  (pe_revT h).imp fun σ H Q ⟨O, δ, Qd, w, q, k⟩ => ⟨O, δ, _, w, q, fun d v H1 ⟨xs, e, q1⟩ s1 r1 => by
    subst e
    obtain ⟨a, us, rfl, h1, d1⟩ := r1.tup
    exact ⟨a, us, rfl, h1, fun p hp => k _ _ _ q1 (s1.trans (Same.new hp)) (.tup (.inl upd_same) (nex w s1 hp) (d1.reverse.mono (Same.new hp)))⟩⟩
end
theorem cD_nm1 {xs : List PyData} : cutD xs none (some (-1)) = xs.dropLast := by
  unfold cutD
  rw [sIx_none]
  have e : HT.sIx xs.length xs.length (some (-1)) = xs.length - 1 := by
    simp only [HT.sIx]
    rw [if_pos (by decide)]; omega
  rw [e, List.drop_zero, Nat.sub_zero, List.dropLast_eq_take]
section
variable {x : Option Expr} {n : Nat} {env : Env}
theorem swaps_BinOp {a b c d} : swapsWith (.BinOp a b c d) x n env = pure false := rfl
theorem swaps_Call {a b c d} : swapsWith (.Call a b c d) x n env = pure false := rfl
theorem swaps_Subscript {a b c} : swapsWith (.Subscript a b c) x n env = pure false := rfl
theorem swaps_Dict {a b c} : swapsWith (.Dict a b c) x n env = pure false := rfl
end
end L2

/-! defs that give a new list, which is the asker's own to go on with -/
namespace L2
open PySem PySem.Spec PyProof.Rows PySem.W
section
variable {X : Cx} {H0 : Hp} {O0 : Ex}
def upN (K : PySem.W.Frag) (H0 : Hp) (O0 : Ex) (t : DS) (te : DA) : TS := fun D σ H => ∃ O δ Qd, Wd K H0 O0 H O σ δ ∧ t { nx := fun δ' => te δ' Qd, rt := fun _ => False } δ ∧
  ∀ ds vs p H', Qd ds → Same H0 H' → H' p = none → Dts K H' O0 vs ds → D.rt (.ref p) (upd H' p (.lst vs))
def spN (K : PySem.W.Frag) (F : List PyData → (List PyData → Prop) → Prop) : Sp := fun vs H Q _ => ∃ O ds Qd, (∀ l, O l → H l ≠ none) ∧ Dts K H O vs ds ∧ F ds Qd ∧ ∀ es us p H', Qd es → Same H H' → H' p = none → Dts K H' O us es → Q (.ref p) (upd H' p (.lst us))
def dCallN (F : List PyData → (List PyData → Prop) → Prop) (t : DA) : DA := fun δ Q => t δ fun ds => F ds Q
end
section
variable {P : Program} {w : World} {K : PySem.W.Frag} {mg : Str → Option Value} {base : Heap}
end
section
variable {X : Cx} {H0 : Hp} {O0 : Ex}
/-! a list twice -/
def dRep2 (t : DA) : DA := fun δ Q => t δ fun ds => ds.length ≤ 1000 ∧ Q (ds ++ ds)
end
theorem wq_paper_happens : (Str.ofString "paper" == Str.ofString "happens") = false := by decide +kernel
theorem wq_paper_rule : (Str.ofString "paper" == Str.ofString "rule") = false := by decide +kernel
theorem wq_paper_end : (Str.ofString "paper" == Str.ofString "end") = false := by decide +kernel
theorem wq_paper_hold : (Str.ofString "paper" == Str.ofString "hold") = false := by decide +kernel
theorem wq_paper_lift : (Str.ofString "paper" == Str.ofString "lift") = false := by decide +kernel
theorem wq_paper_leave : (Str.ofString "paper" == Str.ofString "leave") = false := by decide +kernel
theorem wq_happens_paper : (Str.ofString "happens" == Str.ofString "paper") = false := by decide +kernel
theorem wq_happens_rule : (Str.ofString "happens" == Str.ofString "rule") = false := by decide +kernel
theorem wq_happens_end : (Str.ofString "happens" == Str.ofString "end") = false := by decide +kernel
theorem wq_happens_hold : (Str.ofString "happens" == Str.ofString "hold") = false := by decide +kernel
theorem wq_happens_lift : (Str.ofString "happens" == Str.ofString "lift") = false := by decide +kernel
theorem wq_happens_leave : (Str.ofString "happens" == Str.ofString "leave") = false := by decide +kernel
theorem wq_rule_paper : (Str.ofString "rule" == Str.ofString "paper") = false := by decide +kernel
theorem wq_rule_happens : (Str.ofString "rule" == Str.ofString "happens") = false := by decide +kernel
theorem wq_rule_end : (Str.ofString "rule" == Str.ofString "end") = false := by decide +kernel
theorem wq_rule_hold : (Str.ofString "rule" == Str.ofString "hold") = false := by decide +kernel
theorem wq_rule_lift : (Str.ofString "rule" == Str.ofString "lift") = false := by decide +kernel
theorem wq_rule_leave : (Str.ofString "rule" == Str.ofString "leave") = false := by decide +kernel
theorem wq_end_paper : (Str.ofString "end" == Str.ofString "paper") = false := by decide +kernel
theorem wq_end_happens : (Str.ofString "end" == Str.ofString "happens") = false := by decide +kernel
theorem wq_end_rule : (Str.ofString "end" == Str.ofString "rule") = false := by decide +kernel
theorem wq_end_hold : (Str.ofString "end" == Str.ofString "hold") = false := by decide +kernel
theorem wq_end_lift : (Str.ofString "end" == Str.ofString "lift") = false := by decide +kernel
theorem wq_end_leave : (Str.ofString "end" == Str.ofString "leave") = false := by decide +kernel
theorem wq_hold_paper : (Str.ofString "hold" == Str.ofString "paper") = false := by decide +kernel
theorem wq_hold_happens : (Str.ofString "hold" == Str.ofString "happens") = false := by decide +kernel
theorem wq_hold_rule : (Str.ofString "hold" == Str.ofString "rule") = false := by decide +kernel
theorem wq_hold_end : (Str.ofString "hold" == Str.ofString "end") = false := by decide +kernel
theorem wq_hold_lift : (Str.ofString "hold" == Str.ofString "lift") = false := by decide +kernel
theorem wq_hold_leave : (Str.ofString "hold" == Str.ofString "leave") = false := by decide +kernel
theorem wq_lift_paper : (Str.ofString "lift" == Str.ofString "paper") = false := by decide +kernel
theorem wq_lift_happens : (Str.ofString "lift" == Str.ofString "happens") = false := by decide +kernel
theorem wq_lift_rule : (Str.ofString "lift" == Str.ofString "rule") = false := by decide +kernel
theorem wq_lift_end : (Str.ofString "lift" == Str.ofString "end") = false := by decide +kernel
theorem wq_lift_hold : (Str.ofString "lift" == Str.ofString "hold") = false := by decide +kernel
theorem wq_lift_leave : (Str.ofString "lift" == Str.ofString "leave") = false := by decide +kernel
theorem wq_leave_paper : (Str.ofString "leave" == Str.ofString "paper") = false := by decide +kernel
theorem wq_leave_happens : (Str.ofString "leave" == Str.ofString "happens") = false := by decide +kernel
theorem wq_leave_rule : (Str.ofString "leave" == Str.ofString "rule") = false := by decide +kernel
theorem wq_leave_end : (Str.ofString "leave" == Str.ofString "end") = false := by decide +kernel
theorem wq_leave_hold : (Str.ofString "leave" == Str.ofString "hold") = false := by decide +kernel
theorem wq_leave_lift : (Str.ofString "leave" == Str.ofString "lift") = false := by decide +kernel
end L2

/-! texts made and taken apart -/
namespace L2
open PySem PySem.Spec PyProof.Rows PySem.W
section
variable {X : Cx} {H0 : Hp} {O0 : Ex}
/-! str(i), int(x), x.zfill(i) -/
def dStrI : List PyData → (PyData → Prop) → Prop := fun ds Q => ∃ i : Int, ds = [.int i] ∧ i.natAbs.log2 < 1920 ∧ Q (.str (toString i))
def dIntT : List PyData → (PyData → Prop) → Prop := fun ds Q => ∃ (z : Str) (n : Int), ds = [.str z] ∧ PySem.intText? z = some n ∧ z.length ≤ 640 ∧ Q (.int n)
def dZfill (to t : DT) : DT := fun δ Q => to δ fun x => ∃ z : Str, x = .str z ∧ t δ fun y => ∃ i : Int, y = .int i ∧ PadOk i = true ∧ Q (.str (Txt.zfill z i))
/-! x.split(y) -/
def dSplit (to t : DT) : DA := fun δ Q => to δ fun x => ∃ z : Str, x = .str z ∧ t δ fun y => ∃ y' : Str, y = .str y' ∧ (y'.length == 0) = false ∧ z.length ≤ 1000000 ∧ Q ((Txt.split z y').map .str)
end
/-! f-strings -/
section
variable {X : Cx} {H0 : Hp} {O0 : Ex}
/-- a part of an f-string, a text -/
def PF (X : Cx) (H0 : Hp) (O0 : Ex) (e : Expr) (t : DT) : Prop := ∀ (pins : List (Addr × Obj)) (s : Shared) (σ : St) (H : Hp) (R : Str → Prop) (Q : VK), Inv X pins σ H s → (∃ O δ, Wd X.K H0 O0 H O σ δ ∧ t δ (fun d => ∃ z : Str, d = .str z ∧ z.length ≤ sizeLine ∧ R z) ∧ ∀ z H', R z → Same H H' → Q (.str z) H') → wpAny (model X.prog X.w) X.A (eval e X.env) (EP X pins σ Q) X.xe s
def dJs : List DT → Str → DT
  | [], out => fun _ Q => out.length ≤ sizeLine ∧ Q (.str out)
  | t :: ts, out => fun δ Q => t δ fun d => ∃ z : Str, d = .str z ∧ z.length ≤ sizeLine ∧ (out ++ z).length ≤ sizeLine ∧ dJs ts (out ++ z) δ Q
inductive PFs (X : Cx) (H0 : Hp) (O0 : Ex) : List Expr → List DT → Prop
  | nil : PFs X H0 O0 [] []
  | cons {e : Expr} {es : List Expr} {t : DT} {ts : List DT} : PF X H0 O0 e t → PFs X H0 O0 es ts → PFs X H0 O0 (e :: es) (t :: ts)
end
end L2

namespace L2
open PySem PySem.Spec PyProof.Rows PySem.W
section
variable {X : Cx} {H0 : Hp} {O0 : Ex}
/-! a statement that no road reaches -/
def dNever : DS := fun _ _ => False
theorem ds_never {st : Stmt} : PS X st (upD X.K H0 O0 dNever) := ps_never.imp fun D σ H ⟨O, δ, E, w, q, _⟩ => q.elim
/-! < of ints, of texts, of tuples of ints -/
def dInts (ns : List Int) : List PyData := ns.map .int
def dLtU : PyData → PyData → (PyData → Prop) → Prop := fun x y Q => (∃ i j : Int, x = .int i ∧ y = .int j ∧ Q (.bool (decide (i < j)))) ∨ (∃ i j : Str, x = .str i ∧ y = .str j ∧ Q (.bool (decide (i.cps.toList < j.cps.toList)))) ∨
  (∃ ns ms : List Int, x = .tuple (dInts ns) ∧ y = .tuple (dInts ms) ∧ Q (.bool (HT.lexLt ns ms)))
end
end L2

/-! the walk goes to the head first: what a name stands for is put in before its rest is looked at -/
namespace L2
open PySem PySem.Spec PyProof.Rows PySem.W
section
variable {α : Type} {P : α → Prop}
theorem lz_v0 {a : PyData} {r : Dl} {P : PyData → Prop} : (∃ d, (some (Sl.v a) :: r)[0]? = some (some (Sl.v d)) ∧ P d) = P a := by simp
theorem lz_vS {x : Option Sl} {r : Dl} {i : Nat} {P : PyData → Prop} : (∃ d, (x :: r)[i + 1]? = some (some (Sl.v d)) ∧ P d) = (∃ d, r[i]? = some (some (Sl.v d)) ∧ P d) := by simp
theorem lz_vE {a : PyData} {l : Dl} {i : Nat} {P : PyData → Prop} : (∃ d, (l.set i (some (Sl.v a)))[i]? = some (some (Sl.v d)) ∧ P d) = (i < l.length ∧ P a) := by
  apply propext
  rw [List.getElem?_set_self']
  constructor
  · rintro ⟨d, e, p⟩
    by_cases h : i < l.length
    · rw [List.getElem?_eq_getElem h] at e; cases e; exact ⟨h, p⟩
    · rw [List.getElem?_eq_none (by omega)] at e; cases e
  · rintro ⟨h, p⟩
    exact ⟨a, by rw [List.getElem?_eq_getElem h]; rfl, p⟩
theorem lz_vN {x : Option Sl} {l : Dl} {i j : Nat} {P : PyData → Prop} (h : i ≠ j) : (∃ d, (l.set i x)[j]? = some (some (Sl.v d)) ∧ P d) = (∃ d, l[j]? = some (some (Sl.v d)) ∧ P d) := by rw [List.getElem?_set_ne h]
theorem lz_o0 {a : List PyData} {r : Dl} {P : List PyData → Prop} : (∃ d, (some (Sl.o a) :: r)[0]? = some (some (Sl.o d)) ∧ P d) = P a := by simp
theorem lz_oS {x : Option Sl} {r : Dl} {i : Nat} {P : List PyData → Prop} : (∃ d, (x :: r)[i + 1]? = some (some (Sl.o d)) ∧ P d) = (∃ d, r[i]? = some (some (Sl.o d)) ∧ P d) := by simp
theorem lz_oE {a : List PyData} {l : Dl} {i : Nat} {P : List PyData → Prop} : (∃ d, (l.set i (some (Sl.o a)))[i]? = some (some (Sl.o d)) ∧ P d) = (i < l.length ∧ P a) := by
  apply propext
  rw [List.getElem?_set_self']
  constructor
  · rintro ⟨d, e, p⟩
    by_cases h : i < l.length
    · rw [List.getElem?_eq_getElem h] at e; cases e; exact ⟨h, p⟩
    · rw [List.getElem?_eq_none (by omega)] at e; cases e
  · rintro ⟨h, p⟩
    exact ⟨a, by rw [List.getElem?_eq_getElem h]; rfl, p⟩
theorem lz_oN {x : Option Sl} {l : Dl} {i j : Nat} {P : List PyData → Prop} (h : i ≠ j) : (∃ d, (l.set i x)[j]? = some (some (Sl.o d)) ∧ P d) = (∃ d, l[j]? = some (some (Sl.o d)) ∧ P d) := by rw [List.getElem?_set_ne h]
theorem lz_b {a : Bool} {P : Bool → Prop} : (∃ b, PyData.bool a = .bool b ∧ P b) = P a := by simp
theorem lz_i {a : Int} {P : Int → Prop} : (∃ b, PyData.int a = .int b ∧ P b) = P a := by simp
theorem lz_s {a : Str} {P : Str → Prop} : (∃ b, PyData.str a = .str b ∧ P b) = P a := by simp
theorem lz_t {a : List PyData} {P : List PyData → Prop} : (∃ b, PyData.tuple a = .tuple b ∧ P b) = P a := by simp
theorem lz_l {a : List PyData} {P : List PyData → Prop} : (∃ b, PyData.list a = .list b ∧ P b) = P a := by simp
theorem lz_ii {a b : Int} {P : Int → Int → Prop} : (∃ i j, PyData.int a = .int i ∧ PyData.int b = .int j ∧ P i j) = P a b := by simp
theorem lz_ss {a b : Str} {P : Str → Str → Prop} : (∃ i j, PyData.str a = .str i ∧ PyData.str b = .str j ∧ P i j) = P a b := by simp
theorem lz_tt {a b : List PyData} {P : List PyData → List PyData → Prop} : (∃ i j, PyData.tuple a = .tuple i ∧ PyData.tuple b = .tuple j ∧ P i j) = P a b := by simp
theorem lz_ll {a b : List PyData} {P : List PyData → List PyData → Prop} : (∃ i j, PyData.list a = .list i ∧ PyData.list b = .list j ∧ P i j) = P a b := by simp
theorem lz_cons {a : PyData} {r : List PyData} {P : PyData → List PyData → Prop} : (∃ x y, a :: r = x :: y ∧ P x y) = P a r := propext ⟨fun ⟨_, _, e, p⟩ => by cases e; exact p, fun p => ⟨_, _, rfl, p⟩⟩
theorem lz_two {a b : PyData} {P : PyData → PyData → Prop} : (∃ x y, [a, b] = [x, y] ∧ P x y) = P a b := propext ⟨fun ⟨_, _, e, p⟩ => by cases e; exact p, fun p => ⟨_, _, rfl, p⟩⟩
theorem lz_tt0 {a : PyData} {r : List PyData} {P : PyData → Prop} : (∃ ds i d, PyData.tuple (a :: r) = .tuple ds ∧ PyData.int 0 = .int i ∧ atI ds i = some d ∧ P d) = P a := by simp [atI_c0]
theorem lz_tt1 {a b : PyData} {r : List PyData} {P : PyData → Prop} : (∃ ds i d, PyData.tuple (a :: b :: r) = .tuple ds ∧ PyData.int 1 = .int i ∧ atI ds i = some d ∧ P d) = P b := by simp [atI_c1]
theorem lz_tt2 {a b c : PyData} {r : List PyData} {P : PyData → Prop} : (∃ ds i d, PyData.tuple (a :: b :: c :: r) = .tuple ds ∧ PyData.int 2 = .int i ∧ atI ds i = some d ∧ P d) = P c := by simp [atI_c2]
theorem lz_tt3 {a b c e : PyData} {r : List PyData} {P : PyData → Prop} : (∃ ds i d, PyData.tuple (a :: b :: c :: e :: r) = .tuple ds ∧ PyData.int 3 = .int i ∧ atI ds i = some d ∧ P d) = P e := by simp [atI_c3]
theorem lz_ll0 {a : PyData} {r : List PyData} {P : PyData → Prop} : (∃ ds i d, PyData.list (a :: r) = .list ds ∧ PyData.int 0 = .int i ∧ atI ds i = some d ∧ P d) = P a := by simp [atI_c0]
theorem lz_ll1 {a b : PyData} {r : List PyData} {P : PyData → Prop} : (∃ ds i d, PyData.list (a :: b :: r) = .list ds ∧ PyData.int 1 = .int i ∧ atI ds i = some d ∧ P d) = P b := by simp [atI_c1]
theorem lz_ll2 {a b c : PyData} {r : List PyData} {P : PyData → Prop} : (∃ ds i d, PyData.list (a :: b :: c :: r) = .list ds ∧ PyData.int 2 = .int i ∧ atI ds i = some d ∧ P d) = P c := by simp [atI_c2]
theorem lz_tix {xs : List PyData} {k : Int} {P : PyData → Prop} : (∃ ds i d, PyData.tuple xs = .tuple ds ∧ PyData.int k = .int i ∧ atI ds i = some d ∧ P d) = (∃ d, atI xs k = some d ∧ P d) := by simp
theorem lz_lix {xs : List PyData} {k : Int} {P : PyData → Prop} : (∃ ds i d, PyData.list xs = .list ds ∧ PyData.int k = .int i ∧ atI ds i = some d ∧ P d) = (∃ d, atI xs k = some d ∧ P d) := by simp
end
end L2
namespace L2
open PySem PySem.Spec PyProof.Rows PySem.W
/-- a word of a tuple asked for -/
theorem lz_w {w v : Str} {r : List PyData} {l : Dl} {Q : Bool → Prop} : dTest (dOp dEqZ (dOp dIxT (dVar 0) (dC (.int 0))) (dC (.str v))) (some (.v (.tuple (.str w :: r))) :: l) Q = Q (w == v) := by
  simp [dTest, dOp, dEqZ, dIxT, dVar, dC, atI_c0, isThing, eqv_str]
theorem lz_wN {v : Str} {x : Option Sl} {l : Dl} {k : Nat} {Q : Bool → Prop} : dTest (dOp dEqZ (dOp dIxT (dVar 0) (dC (.int 0))) (dC (.str v))) (l.set (k + 1) x) Q = dTest (dOp dEqZ (dOp dIxT (dVar 0) (dC (.int 0))) (dC (.str v))) l Q := by
  simp only [dTest, dOp, dVar, dC, List.getElem?_set_ne (show k + 1 ≠ 0 by omega)]
end L2

/-! dicts under way: keys are whole numbers or texts -/
namespace L2
open PySem PySem.Spec PyProof.Rows PySem.W
def keyD : Key → PyData
  | .inl i => .int i
  | .inr x => .str x
def valD (kd : List (Key × PyData)) (k : Key) : Option PyData := (kd.find? fun p => decide (p.1 = k)).map (·.2)
def putD (kd : List (Key × PyData)) (k : Key) (d : PyData) : List (Key × PyData) := if (kd.any fun p => decide (p.1 = k)) = true then kd.map (fun p => if p.1 = k then (p.1, d) else p) else kd ++ [(k, d)]
section
variable {K : PySem.W.Frag} {H : Hp} {O : Ex}
theorem Dt.key {v : V} {k : Key} (h : Dt K H O v (keyD k)) : v = kV k := by
  cases k with
  | inl i => cases h; rfl
  | inr x => cases h; rfl
theorem KDt.val {kv : List (Key × V)} {kd : List (Key × PyData)} (h : KDt K H O kv kd) (k : Key) : (valV kv k = none ∧ valD kd k = none) ∨ ∃ v d, valV kv k = some v ∧ valD kd k = some d ∧ Dt K H O v d := by
  induction h with
  | nil => exact .inl ⟨rfl, rfl⟩
  | @cons j v d r s a _ ih =>
    by_cases e : j = k
    · exact .inr ⟨v, d, valV_pos e, by simp [valD, List.find?_cons, e], a⟩
    · rw [valV_neg e, show valD ((j, d) :: s) k = valD s k by simp [valD, List.find?_cons, e]]
      exact ih
theorem KDt.any {kv : List (Key × V)} {kd : List (Key × PyData)} (h : KDt K H O kv kd) (k : Key) : (kv.any fun p => decide (p.1 = k)) = (kd.any fun p => decide (p.1 = k)) := by
  induction h with
  | nil => rfl
  | cons a _ ih => simp only [List.any_cons, ih]
theorem KDt.length {kv : List (Key × V)} {kd : List (Key × PyData)} (h : KDt K H O kv kd) : kv.length = kd.length := by
  induction h with
  | nil => rfl
  | cons a _ ih => simp only [List.length_cons, ih]
theorem KDt.append {kv kv' : List (Key × V)} {kd kd' : List (Key × PyData)} (h : KDt K H O kv kd) (h' : KDt K H O kv' kd') : KDt K H O (kv ++ kv') (kd ++ kd') := by
  induction h with
  | nil => exact h'
  | cons a _ ih => exact .cons a ih
theorem KDt.repl {kv : List (Key × V)} {kd : List (Key × PyData)} (h : KDt K H O kv kd) (k : Key) {v : V} {d : PyData} (hv : Dt K H O v d) : KDt K H O (kv.map fun p => if p.1 = k then (p.1, v) else p) (kd.map fun p => if p.1 = k then (p.1, d) else p) := by
  induction h with
  | nil => exact .nil
  | @cons j u e r s a _ ih =>
    simp only [List.map_cons]
    by_cases z : j = k
    · rw [if_pos z, if_pos z]; exact .cons hv ih
    · rw [if_neg z, if_neg z]; exact .cons a ih
theorem KDt.put {kv : List (Key × V)} {kd : List (Key × PyData)} (h : KDt K H O kv kd) (k : Key) {v : V} {d : PyData} (hv : Dt K H O v d) : KDt K H O (putK kv k v) (putD kd k d) := by
  unfold putK putD
  rw [h.any k]
  split
  · exact h.repl k hv
  · exact h.append (.cons hv .nil)
end
section
variable {X : Cx} {H0 : Hp} {O0 : Ex}
/-- a new dict -/
abbrev DKy := Dl → (List (Key × PyData) → Prop) → Prop
def upK (K : PySem.W.Frag) (H0 : Hp) (O0 : Ex) (t : DKy) : TE := fun σ H R => ∃ O δ Qd, Wd K H0 O0 H O σ δ ∧ t δ Qd ∧ ∀ kd kv p H', Qd kd → Same H H' → H' p = none → KDt K H' O kv kd → R (.ref p) (upd H' p (.dK kv))
abbrev KE (X : Cx) (H0 : Hp) (O0 : Ex) (e : Expr) (t : DKy) : Prop := PE X e (upK X.K H0 O0 t)
def dEmp : DKy := fun _ Q => Q []
theorem ke_emp {pos : Pos} : KE X H0 O0 (.Dict [] [] pos) dEmp := pe_dnewK.imp fun σ H Q ⟨O, δ, Qd, w, q, k⟩ => fun p hp => k [] [] p H q (Same.refl _) hp .nil
def dNewK (i : Nat) (t : DKy) : DS := fun E δ => t δ fun kd => E.nx (δ.set i (some (.k kd)))
theorem ds_newK {i : Nat} {x : Str} {e : Expr} {t : DKy} {pos pos' : Pos} (hN : X.N.Nodup) (hi : X.N[i]? = some x) (hx : Loc X.env.scope x) (he : KE X H0 O0 e t) (hs : swapsWith e (some (.Name x pos')) pos.line X.env = pure false := by rfl) (hf : X.fn x = true ∨ X.env.scope.names.lookup x = some .local := by first | exact .inl rfl | exact .inr rfl | assumption) :
    PS X (.Assign [.Name x pos'] e pos) (upD X.K H0 O0 (dNewK i t)) :=
  (ps_set hN hi hx he hs hf).imp fun D σ H ⟨O, δ, E, w, q, k1, k2, k3, k4⟩ => ⟨O, δ, _, w, q, fun ds vs p H1 q1 s1 hp r1 => k1 _ _ _ _ q1 ((w.mono s1).setK hp r1)
    ⟨fun b o e _ => (s1.trans (Same.new hp)) b o e, fun b e n z => z.elim n fun y => by
      cases q : H b with
      | none => exact e q
      | some o => have := s1 _ _ q; rw [y, hp] at this; cases this⟩⟩
/-- d[k] = v -/
def dPutK (i : Nat) (tk tv : DT) : DS := fun E δ => tv δ fun d => ∃ kd, δ[i]? = some (some (.k kd)) ∧ tk δ fun y => ∃ k, y = keyD k ∧ kd.length < sizeLine ∧ E.nx (δ.set i (some (.k (putD kd k d))))
theorem ds_putK {i : Nat} {o e v : Expr} {tk tv : DT} {pos pos' : Pos} (hu : X.A.units + 64 < cLine) (ho : PE X o (tVar i)) (he : DE X H0 O0 e tk) (hv : DE X H0 O0 v tv) (hs : swapsWith v (some (.Subscript o e pos')) pos.line X.env = pure false := by rfl) :
    PS X (.Assign [.Subscript o e pos'] v pos) (upD X.K H0 O0 (dPutK i tk tv)) :=
  (ps_dput (by omega) ho he hv hs).imp fun D σ H ⟨O, δ, E, w, q, k1, k2, k3, k4⟩ => ⟨O, δ, _, w, q, fun d u H1 ⟨kd, e, qk⟩ s1 r1 => by
    have w1 := w.mono s1
    obtain ⟨l, kv, h, a, b, c, r⟩ := w1.ownK e
    refine ⟨.ref l, h, O, δ, _, w1, qk, fun y uy H2 ⟨k, ek, hl, q2⟩ s2 r2 => ?_⟩
    subst ek
    obtain rfl := r2.key
    refine ⟨l, _, rfl, DPut.k (s2 _ _ c) (by rw [r.length]; exact hl), k1 _ _ _ _ q2 ((w1.mono s2).putK e h ((r.mono s2).put k (r1.mono s2))) ⟨fun b' o' z n => ?_, fun _ _ n => n⟩⟩
    rw [upd_ne (fun y => n (by rw [y]; exact a))]; exact (s1.trans s2) _ _ z⟩
/-- d[k] -/
def dGetK (i : Nat) (tk : DT) : DT := fun δ Q => ∃ kd, δ[i]? = some (some (.k kd)) ∧ tk δ fun y => ∃ k d, y = keyD k ∧ valD kd k = some d ∧ Q d
theorem KDt.got {K : PySem.W.Frag} {H : Hp} {O : Ex} {kv : List (Key × V)} {kd : List (Key × PyData)} (h : KDt K H O kv kd) {k : Key} {d : PyData} (e : valD kd k = some d) : ∃ v, valV kv k = some v ∧ Dt K H O v d := by
  rcases h.val k with ⟨_, z⟩ | ⟨v, d', a, b, c⟩
  · rw [e] at z; cases z
  · rw [e] at b; cases b; exact ⟨v, a, c⟩
theorem KDt.none {K : PySem.W.Frag} {H : Hp} {O : Ex} {kv : List (Key × V)} {kd : List (Key × PyData)} (h : KDt K H O kv kd) {k : Key} : (valV kv k).isSome = (valD kd k).isSome := by
  rcases h.val k with ⟨y, z⟩ | ⟨v, d', a, b, c⟩
  · rw [y, z]; rfl
  · rw [a, b]; rfl
theorem de_getK {i : Nat} {o e : Expr} {tk : DT} {pos : Pos} (hu : X.A.units + 64 < cLine) (ho : PE X o (tVar i)) (he : DE X H0 O0 e tk) (hs : NoSl e) : DE X H0 O0 (.Subscript o e pos) (dGetK i tk) :=
  (pe_dget (by omega) ho he hs).imp fun σ H Q ⟨O, δ, Qd, w, ⟨kd, e, q⟩, k⟩ => by
    obtain ⟨l, kv, h, a, b, c, r⟩ := w.ownK e
    refine ⟨.ref l, h, O, δ, _, w, q, fun y uy H2 ⟨ky, d, ek, ev, q2⟩ s2 r2 => ?_⟩
    subst ek
    obtain rfl := r2.key
    obtain ⟨v, hv, dv⟩ := r.got ev
    exact ⟨l, v, rfl, by rw [← hv]; exact DGet.k (s2 _ _ c), k _ _ _ q2 s2 (dv.mono s2)⟩
/-- d.get(k) -/
def dGet1K (i : Nat) (tk : DT) : DT := fun δ Q => ∃ kd, δ[i]? = some (some (.k kd)) ∧ tk δ fun y => ∃ k, y = keyD k ∧ Q ((valD kd k).getD .none)
/-- k in d, k not in d -/
def dInK (neg : Bool) (i : Nat) (tk : DT) : DT := fun δ Q => tk δ fun y => ∃ k, y = keyD k ∧ ∃ kd, δ[i]? = some (some (.k kd)) ∧ Q (.bool (if neg then !(valD kd k).isSome else (valD kd k).isSome))
theorem pc_inK {i : Nat} {o e : Expr} {tk : DT} (hu : X.A.units + 64 < cLine) (ho : PE X o (tVar i)) (he : DE X H0 O0 e tk) : PC X .In e o (up X.K H0 O0 (dInK false i tk)) := fun pins s σ H Q I ⟨O, δ, Qd, w, q, k⟩ =>
  pc_din (by omega) he ho pins s σ H Q I ⟨O, δ, _, w, q, fun y uy H2 ⟨ky, ek, kd, e, q2⟩ s2 r2 => by
    subst ek
    obtain rfl := r2.key
    obtain ⟨l, kv, h, a, b, c, r⟩ := (w.mono s2).ownK e
    exact ⟨.ref l, h, l, _, rfl, DGet.k c, by rw [r.none]; exact k _ _ _ q2 s2 (.bl _)⟩⟩
end
end L2

namespace L2
open PySem PySem.Spec PyProof.Rows PySem.W PySem.Calls
/-! sorted(d): the keys, texts -/
theorem KDt.keys {K : PySem.W.Frag} {H : Hp} {O : Ex} {kv : List (Key × V)} {kd : List (Key × PyData)} (h : KDt K H O kv kd) : kv.map (·.1) = kd.map (·.1) := by
  induction h with
  | nil => rfl
  | cons a _ ih => simp only [List.map_cons, ih]
section
variable {X : Cx} {H0 : Hp} {O0 : Ex}
def dSortK (i : Nat) : DA := fun δ Q => ∃ kd, δ[i]? = some (some (.k kd)) ∧ ∃ ss : List Str, kd.map (·.1) = ss.map Sum.inr ∧ ss.length < 64 ∧ Q ((sortS ss).map .str)
theorem de_inK {i : Nat} {o e : Expr} {tk : DT} {pos : Pos} (hu : X.A.units + 64 < cLine) (ho : PE X o (tVar i)) (he : DE X H0 O0 e tk) (hm : behindInMarks .In o = false := by rfl) : DE X H0 O0 (.Compare e [.In] [o] pos) (dInK false i tk) := pe_cmp (pc_inK hu ho he) hm
end
section
theorem lz_k0 {a : List (Key × PyData)} {r : Dl} {P : List (Key × PyData) → Prop} : (∃ d, (some (Sl.k a) :: r)[0]? = some (some (Sl.k d)) ∧ P d) = P a := by simp
theorem lz_kS {x : Option Sl} {r : Dl} {i : Nat} {P : List (Key × PyData) → Prop} : (∃ d, (x :: r)[i + 1]? = some (some (Sl.k d)) ∧ P d) = (∃ d, r[i]? = some (some (Sl.k d)) ∧ P d) := by simp
theorem lz_kE {a : List (Key × PyData)} {l : Dl} {i : Nat} {P : List (Key × PyData) → Prop} : (∃ d, (l.set i (some (Sl.k a)))[i]? = some (some (Sl.k d)) ∧ P d) = (i < l.length ∧ P a) := by
  apply propext
  rw [List.getElem?_set_self']
  constructor
  · rintro ⟨d, e, p⟩
    by_cases h : i < l.length
    · rw [List.getElem?_eq_getElem h] at e; cases e; exact ⟨h, p⟩
    · rw [List.getElem?_eq_none (by omega)] at e; cases e
  · rintro ⟨h, p⟩
    exact ⟨a, by rw [List.getElem?_eq_getElem h]; rfl, p⟩
theorem lz_kN {x : Option Sl} {l : Dl} {i j : Nat} {P : List (Key × PyData) → Prop} (h : i ≠ j) : (∃ d, (l.set i x)[j]? = some (some (Sl.k d)) ∧ P d) = (∃ d, l[j]? = some (some (Sl.k d)) ∧ P d) := by rw [List.getElem?_set_ne h]
theorem lz_ks {x : Str} {P : Key → Prop} : (∃ k, PyData.str x = keyD k ∧ P k) = P (.inr x) := propext ⟨fun ⟨k, e, p⟩ => by cases k with | inl i => cases e | inr y => cases e; exact p, fun p => ⟨_, rfl, p⟩⟩
theorem lz_ki {x : Int} {P : Key → Prop} : (∃ k, PyData.int x = keyD k ∧ P k) = P (.inl x) := propext ⟨fun ⟨k, e, p⟩ => by cases k with | inr i => cases e | inl y => cases e; exact p, fun p => ⟨_, rfl, p⟩⟩
end
/-! is None -/
def isNone : PyData → Bool
  | .none => true
  | _ => false
def dIsN : PyData → PyData → (PyData → Prop) → Prop := fun x y Q => y = .none ∧ Q (.bool (isNone x))
def dNotN : PyData → PyData → (PyData → Prop) → Prop := fun x y Q => y = .none ∧ Q (.bool (!isNone x))
/-! abs(i) -/
def dAbs : List PyData → (PyData → Prop) → Prop := fun ds Q => ∃ i : Int, ds = [.int i] ∧ Q (.int (if i < 0 then -i else i))
theorem cd_abs {K : PySem.W.Frag} : CallD K (fun xs H Q => ∃ i, xs = [.int i] ∧ Q (.int (if i < 0 then -i else i)) H) dAbs := fun H O xs ds Qd R _ hs ⟨i, e, q⟩ k => by
  subst e
  cases hs with
  | cons h r => cases r; cases h.int; exact ⟨i, rfl, k _ _ H q (Same.refl _) (.int _)⟩
/-! the script read: script[k], script[:3] -/
def dIxSc : PyData → PyData → (PyData → Prop) → Prop := fun x y Q => ∃ ds i d, x = scrD ds ∧ y = .int i ∧ atI ds i = some d ∧ Q d
theorem od_ixSc {K : PySem.W.Frag} : OpD K (rIxL K) dIxSc := fun H O x y dx dy Qd R _ hx hy ⟨ds, i, d, e1, e2, e3, q⟩ k => by
  subst e1 e2
  obtain ⟨a, vs, rfl, hs, r⟩ := hx.scr
  cases hy.int
  obtain ⟨v, hv, rv⟩ := r.atI e3
  exact ⟨a, vs, i, v, rfl, rfl, hs, hv, k d v H q (Same.refl _) rv⟩
section
variable {X : Cx} {H0 : Hp} {O0 : Ex}
def dSlSc (t : DT) (tl th : DO) : DA := fun δ Q => t δ fun d => tl δ fun l => th δ fun u => ∃ xs, d = scrD xs ∧ Q (cutD xs l u)
theorem fe_sliceSc {e : Expr} {lo hi : Option Expr} {t : DT} {tl th : DO} {pos p2 : Pos} (h : DF X H0 O0 e t) (hl : PO X lo (upO X.K H0 O0 tl)) (hu : PO X hi (upO X.K H0 O0 th)) : FE X H0 O0 (.Subscript e (.Slice lo hi none p2) pos) (dSlSc t tl th) :=
  (pe_slice sl_list h hl hu).imp fun σ H Q ⟨O, δ, Qd, w, q, k⟩ => ⟨O, δ, _, w, q, fun d v H1 q1 s1 r1 => ⟨O, δ, _, w.mono s1, q1, fun l H2 q2 s2 => ⟨O, δ, _, w.mono (s1.trans s2), q2, fun u H3 ⟨xs, e, q3⟩ s3 => by
    subst e
    obtain ⟨a, vs, rfl, h1, d1⟩ := (r1.mono (s2.trans s3)).scr
    exact ⟨a, vs, rfl, h1, fun p hp => k _ _ _ _ q3 (s1.trans (s2.trans s3)) hp (d1.cut l u)⟩⟩⟩⟩
end
/-! text * n -/
theorem op_mulS {X : Cx} : OpR X (binaryOp .Mult) (fun x y H Q => ∃ (z : Str) (n : Int), x = .str z ∧ y = .int n ∧ MulOk z n ∧ Q (.str (Txt.mul z n)) H) := by
  intro pins s σ H x y v u Q I rx ry h
  obtain ⟨z, n, rfl, rfl, hok, q⟩ := h
  obtain ⟨t, rfl⟩ := rx
  obtain ⟨t', rfl⟩ := ry
  exact SB.mul hok fun t' k => ⟨.str _, H, I.tok _, ⟨_, rfl⟩, q⟩
def dMulS : PyData → PyData → (PyData → Prop) → Prop := fun x y Q => ∃ (z : Str) (n : Int), x = .str z ∧ y = .int n ∧ MulOk z n ∧ Q (.str (Txt.mul z n))
theorem od_mulS {K : PySem.W.Frag} : OpD K (fun x y H Q => ∃ (z : Str) (n : Int), x = .str z ∧ y = .int n ∧ MulOk z n ∧ Q (.str (Txt.mul z n)) H) dMulS := fun H O x y dx dy Qd R _ hx hy ⟨z, n, e1, e2, c, q⟩ k => by
  subst e1 e2; cases hx.str; cases hy.int; exact ⟨z, n, rfl, rfl, c, k _ _ H q (Same.refl _) (.str _)⟩
end L2

namespace L2
open PySem PySem.Spec PyProof.Rows PySem.W
/-! the latest deeds by names -/
structure Rw where
  w : Str
  n : Int
  nm : Str
  r : List PyData
def Rw.enc (x : Rw) : PyData := .tuple (.str x.w :: .int x.n :: .str x.nm :: x.r)
def okr (ws : List Str) (day : Int) (x : Rw) : Prop := x.w ∈ ws ∧ x.n ≤ day
instance {ws : List Str} {day : Int} {x : Rw} : Decidable (okr ws day x) := by unfold okr; infer_instance
abbrev Ls := List (Str × Rw)
def kdL (L : Ls) : List (Key × PyData) := L.map fun p => (.inr p.1, p.2.enc)
def lookL (L : Ls) (nm : Str) : Option Rw := (L.find? fun p => decide (p.1 = nm)).map (·.2)
def putL (L : Ls) (nm : Str) (x : Rw) : Ls := if (L.any fun p => decide (p.1 = nm)) = true then L.map (fun p => if p.1 = nm then (p.1, x) else p) else L ++ [(nm, x)]
theorem key_r {a b : Str} : ((Sum.inr a : Key) = Sum.inr b) ↔ a = b := ⟨fun h => by cases h; rfl, fun h => by rw [h]⟩
structure LatestOn (ws : List Str) (day : Int) (xs : List Rw) (L : Ls) : Prop where
  nd : (L.map (·.1)).Nodup
  it : ∀ p ∈ L, p.1 = p.2.nm ∧ p.2 ∈ xs ∧ okr ws day p.2 ∧ ∀ y ∈ xs, okr ws day y → y.nm = p.1 → y.n ≤ p.2.n
  al : ∀ y ∈ xs, okr ws day y → ∃ p ∈ L, p.1 = y.nm
  le : L.length ≤ xs.length
theorem LatestOn.nil (ws : List Str) (day : Int) : LatestOn ws day [] [] := ⟨List.nodup_nil, (fun p h => by cases h), (fun p h => by cases h), Nat.le_refl _⟩
theorem look_some {L : Ls} {nm : Str} {y : Rw} (h : lookL L nm = some y) : ∃ p ∈ L, p.1 = nm ∧ p.2 = y := by
  unfold lookL at h
  cases e : L.find? (fun p => decide (p.1 = nm)) with
  | none => rw [e] at h; cases h
  | some p =>
    rw [e] at h; cases h
    exact ⟨p, List.mem_of_find?_eq_some e, by simpa using List.find?_some e, rfl⟩
theorem look_none {L : Ls} {nm : Str} (h : lookL L nm = none) : ∀ p ∈ L, p.1 ≠ nm := by
  intro p hp e
  unfold lookL at h
  rw [Option.map_eq_none_iff, List.find?_eq_none] at h
  exact h p hp (by simpa using e)
section
variable {ws : List Str} {day : Int} {xs : List Rw} {L : Ls} {x : Rw}
theorem LatestOn.skip (h : LatestOn ws day xs L) (hx : ¬ okr ws day x) : LatestOn ws day (xs ++ [x]) L := by
  refine ⟨h.nd, fun p hp => ?_, fun y hy ho => ?_, by have := h.le; simp; omega⟩
  · obtain ⟨a, b, c, d⟩ := h.it p hp
    refine ⟨a, by simp [b], c, fun y hy ho e => ?_⟩
    rcases List.mem_append.mp hy with z | z
    · exact d y z ho e
    · rw [List.mem_singleton] at z; subst z; exact absurd ho hx
  · rcases List.mem_append.mp hy with z | z
    · exact h.al y z ho
    · rw [List.mem_singleton] at z; subst z; exact absurd ho hx
theorem LatestOn.keep (h : LatestOn ws day xs L) {y0 : Rw} (hl : lookL L x.nm = some y0) (hn : ¬ y0.n < x.n) : LatestOn ws day (xs ++ [x]) L := by
  obtain ⟨p0, hp0, e0, rfl⟩ := look_some hl
  have uq : ∀ p ∈ L, p.1 = x.nm → p = p0 := fun p hp e => by
    have nd := h.nd
    clear h hl hn
    induction L with
    | nil => cases hp
    | cons q L ih =>
      rw [List.map_cons, List.nodup_cons] at nd
      rcases List.mem_cons.mp hp with a | a <;> rcases List.mem_cons.mp hp0 with b | b
      · rw [a, b]
      · exact absurd (List.mem_map.mpr ⟨p0, b, by rw [e0, ← e, a]⟩) nd.1
      · exact absurd (List.mem_map.mpr ⟨p, a, by rw [e, ← e0, b]⟩) nd.1
      · exact ih b a nd.2
  refine ⟨h.nd, fun p hp => ?_, fun y hy ho => ?_, by have := h.le; simp; omega⟩
  · obtain ⟨a, b, c, d⟩ := h.it p hp
    refine ⟨a, by simp [b], c, fun y hy ho e => ?_⟩
    rcases List.mem_append.mp hy with z | z
    · exact d y z ho e
    · rw [List.mem_singleton] at z; subst z
      rw [uq p hp e.symm]; omega
  · rcases List.mem_append.mp hy with z | z
    · exact h.al y z ho
    · rw [List.mem_singleton] at z; subst z; exact ⟨p0, hp0, e0⟩
theorem LatestOn.put (h : LatestOn ws day xs L) (ho : okr ws day x) (hl : ∀ y, lookL L x.nm = some y → y.n < x.n) : LatestOn ws day (xs ++ [x]) (putL L x.nm x) := by
  unfold putL
  split
  · rename_i ha
    obtain ⟨p0, hp0, e0⟩ := List.any_eq_true.mp ha
    have e0 : p0.1 = x.nm := of_decide_eq_true e0
    have hmx : ∀ y ∈ xs, okr ws day y → y.nm = x.nm → y.n ≤ x.n := fun y hy ho' e => by
      cases hk : lookL L x.nm with
      | none => exact absurd e0 (look_none hk p0 hp0)
      | some z =>
        obtain ⟨p, hp, ep, rfl⟩ := look_some hk
        have := (h.it p hp).2.2.2 y hy ho' (by rw [ep]; exact e)
        have := hl _ hk
        omega
    refine ⟨?_, fun p hp => ?_, fun y hy ho' => ?_, by have := h.le; simp; omega⟩
    · rw [List.map_map, show ((fun p : Str × Rw => p.1) ∘ fun p => if p.1 = x.nm then (p.1, x) else p) = fun p => p.1 by funext p; simp only [Function.comp]; split <;> rfl]
      exact h.nd
    · obtain ⟨q, hq, rfl⟩ := List.mem_map.mp hp
      by_cases z : q.1 = x.nm
      · rw [if_pos z]
        refine ⟨z, by simp, ho, fun y hy ho' e => ?_⟩
        rcases List.mem_append.mp hy with m | m
        · exact hmx y m ho' (by rw [e]; exact z)
        · rw [List.mem_singleton] at m; subst m; exact Int.le_refl _
      · rw [if_neg z]
        obtain ⟨a, b, c, d⟩ := h.it q hq
        refine ⟨a, by simp [b], c, fun y hy ho' e => ?_⟩
        rcases List.mem_append.mp hy with m | m
        · exact d y m ho' e
        · rw [List.mem_singleton] at m; subst m; exact absurd e.symm z
    · rcases List.mem_append.mp hy with m | m
      · obtain ⟨p, hp, e⟩ := h.al y m ho'
        refine ⟨_, List.mem_map.mpr ⟨p, hp, rfl⟩, ?_⟩
        split <;> exact e
      · rw [List.mem_singleton] at m; subst m
        refine ⟨_, List.mem_map.mpr ⟨p0, hp0, rfl⟩, ?_⟩
        rw [if_pos e0]; exact e0
  · rename_i ha
    have hno : ∀ p ∈ L, p.1 ≠ x.nm := fun p hp e => ha (List.any_eq_true.mpr ⟨p, hp, decide_eq_true e⟩)
    refine ⟨?_, fun p hp => ?_, fun y hy ho' => ?_, by have := h.le; simp; omega⟩
    · rw [List.map_append]
      refine List.nodup_append.mpr ⟨h.nd, by simp, fun a ha' b hb => ?_⟩
      simp only [List.map_cons, List.map_nil, List.mem_singleton] at hb
      obtain ⟨p, hp, rfl⟩ := List.mem_map.mp ha'
      rw [hb]; exact hno p hp
    · rcases List.mem_append.mp hp with m | m
      · obtain ⟨a, b, c, d⟩ := h.it p m
        refine ⟨a, by simp [b], c, fun y hy ho' e => ?_⟩
        rcases List.mem_append.mp hy with z | z
        · exact d y z ho' e
        · rw [List.mem_singleton] at z; subst z; exact absurd e.symm (hno p m)
      · rw [List.mem_singleton] at m; subst m
        refine ⟨rfl, by simp, ho, fun y hy ho' e => ?_⟩
        rcases List.mem_append.mp hy with z | z
        · obtain ⟨p, hp, e'⟩ := h.al y z ho'
          exact absurd (e'.trans e) (hno p hp)
        · rw [List.mem_singleton] at z; subst z; exact Int.le_refl _
    · rcases List.mem_append.mp hy with m | m
      · obtain ⟨p, hp, e⟩ := h.al y m ho'; exact ⟨p, by simp [hp], e⟩
      · rw [List.mem_singleton] at m; subst m; exact ⟨(y.nm, y), by simp, rfl⟩
end
/-- what latest tells: by names, rising -/
structure IsLatest (ws : List Str) (day : Int) (xs res : List Rw) : Prop where
  up : (res.map (·.nm)).Pairwise fun a b => leS a b = true
  nd : (res.map (·.nm)).Nodup
  it : ∀ x ∈ res, x ∈ xs ∧ okr ws day x ∧ ∀ y ∈ xs, okr ws day y → y.nm = x.nm → y.n ≤ x.n
  al : ∀ y ∈ xs, okr ws day y → ∃ x ∈ res, x.nm = y.nm
  le : res.length ≤ xs.length
theorem look_of {L : Ls} {nm : Str} (h : nm ∈ L.map (·.1)) : ∃ x, lookL L nm = some x := by
  cases e : lookL L nm with
  | some x => exact ⟨x, rfl⟩
  | none =>
    obtain ⟨p, hp, e'⟩ := List.mem_map.mp h
    exact absurd e' (look_none e p hp)
def resL (L : Ls) : List Rw := (sortS (L.map (·.1))).filterMap (lookL L)
theorem resL_names {ws : List Str} {day : Int} {xs : List Rw} {L : Ls} (h : LatestOn ws day xs L) : (resL L).map (·.nm) = sortS (L.map (·.1)) := by
  unfold resL
  have key : ∀ l : List Str, (∀ a ∈ l, a ∈ L.map (·.1)) → (l.filterMap (lookL L)).map (·.nm) = l := by
    intro l
    induction l with
    | nil => intro _; rfl
    | cons a l ih =>
      intro hl
      obtain ⟨x, hx⟩ := look_of (hl a (by simp))
      obtain ⟨p, hp, e, rfl⟩ := look_some hx
      rw [List.filterMap_cons, hx]
      show p.2.nm :: _ = _
      rw [ih fun b hb => hl b (by simp [hb]), ← (h.it p hp).1, e]
  exact key _ fun a ha => (sortS_perm _).mem_iff.mp ha
theorem LatestOn.res {ws : List Str} {day : Int} {xs : List Rw} {L : Ls} (h : LatestOn ws day xs L) : IsLatest ws day xs (resL L) := by
  have hn := resL_names h
  refine ⟨by rw [hn]; exact sortS_pw _, by rw [hn]; exact (sortS_perm _).nodup_iff.mpr h.nd, fun x hx => ?_, fun y hy ho => ?_, by rw [← List.length_map (f := fun x : Rw => x.nm), hn, (sortS_perm _).length_eq, List.length_map]; exact h.le⟩
  · obtain ⟨a, ha, e⟩ := List.mem_filterMap.mp hx
    obtain ⟨p, hp, e1, rfl⟩ := look_some e
    obtain ⟨b1, b2, b3, b4⟩ := h.it p hp
    exact ⟨b2, b3, fun y hy ho e => b4 y hy ho (by rw [b1]; exact e)⟩
  · obtain ⟨p, hp, e⟩ := h.al y hy ho
    have : p.1 ∈ (resL L).map (·.nm) := by rw [hn]; exact (sortS_perm _).mem_iff.mpr (List.mem_map.mpr ⟨p, hp, rfl⟩)
    obtain ⟨x, hx, e'⟩ := List.mem_map.mp this
    exact ⟨x, hx, e'.trans e⟩
end L2

namespace L2
open PySem PySem.Spec PyProof.Rows PySem.W PySem.Calls
/-! sets of texts -/
theorem or_led (t : SetTable) (n : Nat) : (t.orStandIn n).led = t.led := by unfold SetTable.orStandIn; split <;> rfl
theorem lay_led (t : SetTable) (es : Array (Int × Value)) (h : Int) (x : Value) : (layNew t es h x).2.1.led = t.led := by
  unfold layNew
  split
  · exact or_led _ _
  · rfl
theorem relay_led (t : SetTable) (es : Array (Int × Value)) (n : Nat) : (relayAll t es n).2.1.led = t.led := by
  unfold relayAll SetTable.relaid SetTable.laid
  cases SetTable.layClean (SetTable.sizeAbove n - 1) (es.map (·.1)) with
  | none => rfl
  | some ow => simp only [bind, Option.bind, pure]; split <;> rfl
theorem relay_plain (t : SetTable) (es : Array (Int × Value)) (n : Nat) : (relayAll t es n).2.1.plain = true → t.plain = true := by
  unfold relayAll SetTable.relaid SetTable.laid
  cases SetTable.layClean (SetTable.sizeAbove n - 1) (es.map (·.1)) with
  | none => intro e; cases e
  | some ow =>
    simp only [bind, Option.bind, pure]
    split
    · exact id
    · intro e; cases e
abbrev btx (w : World) : Bool := w.params.followText "set-order"
structure TxSO (P : Program) (w : World) (o : Obj) (ss : List Str) : Prop where
  ex : o.ExactSet
  da : ∃ es ep t, o.data = .set es ep t ∧ ElemsOf (strKind P w) es.toList ∧ (∃ ss', StrsAre (es.toList.map (·.2)) ss' ∧ ss'.Perm ss) ∧ es.size < scanBound ∧ t.fits es.size = true ∧ (btx w = true ∨ t.led = true) ∧ (es.size ≠ 0 → t.plain = false)
def TxS (P : Program) (w : World) (h : Heap) (a : Addr) (ss : List Str) : Prop := ∃ o, h.get? a = some o ∧ TxSO P w o ss
theorem strs_mem {k : Str} : ∀ {vs : List Value} {ss : List Str}, StrsAre vs ss → ((∃ v ∈ vs, v.isStrOf k = true) ↔ k ∈ ss)
  | _, _, .nil => by simp
  | _, _, .cons x t r => by
    have ih := strs_mem (k := k) r
    constructor
    · rintro ⟨v, hv, e⟩
      rcases List.mem_cons.mp hv with z | z
      · subst z
        obtain ⟨u, e'⟩ := Value.isStrOf_shape e
        cases e'
        exact List.mem_cons_self
      · exact List.mem_cons_of_mem _ (ih.mp ⟨v, z, e⟩)
    · intro hk
      rcases List.mem_cons.mp hk with z | z
      · subst z; exact ⟨_, List.mem_cons_self, by simp [Value.isStrOf]⟩
      · obtain ⟨v, hv, e⟩ := ih.mpr z
        exact ⟨v, List.mem_cons_of_mem _ hv, e⟩
theorem strs_perm {vs vs' : List Value} (p : vs'.Perm vs) : ∀ {ss : List Str}, StrsAre vs ss → ∃ ss', StrsAre vs' ss' ∧ ss'.Perm ss := by
  induction p with
  | nil => intro ss h; exact ⟨ss, h, .refl _⟩
  | cons x p ih =>
    intro ss h
    cases h with
    | cons y t r => obtain ⟨s1, a, b⟩ := ih r; exact ⟨y :: s1, .cons y t a, b.cons y⟩
  | swap x y l =>
    intro ss h
    cases h with
    | cons a t r => cases r with | cons b u r => exact ⟨b :: a :: _, .cons b u (.cons a t r), .swap _ _ _⟩
  | trans p q ih1 ih2 =>
    intro ss h
    obtain ⟨s1, a, b⟩ := ih2 h
    obtain ⟨s2, c, d⟩ := ih1 a
    exact ⟨s2, c, d.trans b⟩
theorem strs_snoc {x : Str} {t : Tok} : ∀ {vs : List Value} {ss : List Str}, StrsAre vs ss → StrsAre (vs ++ [.str x t]) (ss ++ [x])
  | _, _, .nil => .cons x t .nil
  | _, _, .cons y u r => .cons y u (strs_snoc r)
theorem strs_len : ∀ {vs : List Value} {ss : List Str}, StrsAre vs ss → vs.length = ss.length
  | _, _, .nil => rfl
  | _, _, .cons y u r => by simp [strs_len r]
def addS (ss : List Str) (x : Str) : List Str := if x ∈ ss then ss else ss ++ [x]
section
variable {P : Program} {w : World} {A : Around} {E : Value → Shared → Prop} {s : Shared}
theorem TxS.mk {h : Heap} {a : Addr} {o : Obj} {es es' : Array (Int × Value)} {ep : Nat} {t t' : SetTable} {ss : List Str} (o1 : h.get? a = some o) (x1 : o.ExactSet) (d1 : o.data = .set es ep t)
    (el : ElemsOf (strKind P w) es'.toList) (sp : ∃ ss', StrsAre (es'.toList.map (·.2)) ss' ∧ ss'.Perm ss) (b1 : es'.size < scanBound) (f1 : t'.fits es'.size = true) (l1 : btx w = true ∨ t'.led = true) (p1 : es'.size ≠ 0 → t'.plain = false) :
    (h.update a (Obj.putSet es' t')).get? a = some { o with data := .set es' (ep + 1) t' } ∧ TxS P w (h.update a (Obj.putSet es' t')) a ss := by
  have g : (h.update a (Obj.putSet es' t')).get? a = some { o with data := .set es' (ep + 1) t' } := by
    have z := Heap.get?_update_self (Obj.putSet es' t') o1 (by rw [putSet_of es' t' d1]; rfl)
    rw [putSet_of es' t' d1] at z; exact z
  exact ⟨g, _, g, x1, es', ep + 1, t', rfl, el, sp, b1, f1, l1, p1⟩
theorem wp_addTail {g : Bool → Sem Unit} (hg : ∀ (b : Bool) (s₁ : Shared) (Q' : Unit → Shared → Prop), Q' () s₁ → wpAny (model P w) A (g b) Q' E s₁)
    {a : Addr} {o : Obj} {es : Array (Int × Value)} {ep : Nat} {t : SetTable} (o1 : s.heap.get? a = some o) (x1 : o.ExactSet) (d1 : o.data = .set es ep t)
    {es1 : Array (Int × Value)} {t2 : SetTable} {ss : List Str} (el : ElemsOf (strKind P w) es1.toList) (sp : ∃ ss', StrsAre (es1.toList.map (·.2)) ss' ∧ ss'.Perm ss)
    (b1 : es1.size < scanBound) (f2 : t2.fits es1.size = true) (l2 : btx w = true ∨ t2.led = true) (p2 : t2.plain = false) {wd : Bool} {R : Option Bool → Shared → Prop}
    (h : ∀ h', Heap.SameBut a s.heap h' → TxS P w h' a ss → R (some true) { s with heap := h' }) :
    wpAny (model P w) A (do
        storeSet a es1 t2
        if (!wd && t2.tooFull) = true then do
            g (relayAll t2 es1 (SetTable.grown es1.size)).2.2
            storeSet a (relayAll t2 es1 (SetTable.grown es1.size)).1 (relayAll t2 es1 (SetTable.grown es1.size)).2.1
            pure (some true)
          else pure (some true)) R E s := by
  refine wpAny_bind (wpAny_storeSet_of o1 d1 ?_ (fits_of_scanBound b1))
  obtain ⟨o2, S2⟩ := TxS.mk (P := P) o1 x1 d1 el sp b1 f2 l2 (fun _ => p2)
  have sb := Heap.SameBut.update s.heap a (Obj.putSet es1 t2)
  split
  · have rp := relayAll_perm t2 es1 (SetTable.grown es1.size)
    have rf := relayAll_fits t2 es1 (SetTable.grown es1.size)
    have rl := relay_led t2 es1 (SetTable.grown es1.size)
    have rq := relay_plain t2 es1 (SetTable.grown es1.size)
    generalize relayAll t2 es1 (SetTable.grown es1.size) = Z at rp rf rl rq ⊢
    obtain ⟨es2, t3, gv⟩ := Z
    dsimp only at rp rf rl rq ⊢
    have sz : es2.size = es1.size := by rw [← Array.length_toList, rp.length_eq, Array.length_toList]
    obtain ⟨ss', q1, q2⟩ := sp
    obtain ⟨ss2, q3, q4⟩ := strs_perm (rp.map (·.2)) q1
    refine wpAny_bind (hg _ _ _ (wpAny_bind (wpAny_storeSet_of o2 rfl ?_ (fits_of_scanBound (by rw [sz]; exact b1)))))
    obtain ⟨_, S3⟩ := TxS.mk (P := P) (w := w) (t' := t3) o2 x1 rfl (el.perm rp) ⟨ss2, q3, q4.trans q2⟩ (by rw [sz]; exact b1) rf (by rw [rl]; exact l2) (fun _ => by
      cases hb : t3.plain with
      | false => rfl
      | true => rw [rq hb] at p2; cases p2)
    exact wpAny_pure (h _ (sb.trans (Heap.SameBut.update _ a _)) S3)
  · exact wpAny_pure (h _ sb S2)
theorem wp_addT {a : Addr} {ss : List Str} {x : Str} {tk : Tok} {Q : Bool → Shared → Prop} (hS : TxS P w s.heap a ss) (hroom : ss.length + 1 < scanBound)
    (h : ∀ h' b, Heap.SameBut a s.heap h' → TxS P w h' a (addS ss x) → Q b { s with heap := h' }) :
    wpAny (model P w) A (setAddHashed a (.str x tk) (hashStr w x)) Q E s := by
  obtain ⟨o, o1, x1, es, ep, t, d1, el, ⟨ss', s1, s2⟩, b1, f1, l1, p1⟩ := hS
  have hk : (strKind P w).is x (.str x tk) = true := strKind_is _ _ _ _
  have hsc : (Value.str x tk).scannable = true := rfl
  have ln : es.size = ss.length := by rw [← s2.length_eq, ← strs_len s1, List.length_map, Array.length_toList]
  unfold setAddHashed setAddHashedIn
  refine wpAny_holding (wpAny_bind (wpAny_setState_of o1 d1 f1 ?_))
  dsimp only
  rw [byScan_of hsc b1 el, if_pos rfl]
  unfold setAddByScan
  refine wpAny_bind (wpAny_bind (wpAny_rule (wpAny_bind (wpAny_setScan_of hk o1 d1 f1 el ?_))))
  have mem : (∃ e ∈ es.toList, (strKind P w).is x e.2 = true) ↔ x ∈ ss := by
    rw [← s2.mem_iff, ← strs_mem s1]
    constructor
    · rintro ⟨e, he, q⟩; exact ⟨e.2, List.mem_map.mpr ⟨e, he, rfl⟩, q⟩
    · rintro ⟨v, hv, q⟩; obtain ⟨e, he, rfl⟩ := List.mem_map.mp hv; exact ⟨e, he, q⟩
  cases hr : List.findIdx? (fun e => (strKind P w).is x e.2) es.toList with
  | some j =>
    obtain ⟨hj, hp, _⟩ := List.findIdx?_eq_some_iff_getElem.mp hr
    have hx : x ∈ ss := mem.mp ⟨_, List.getElem_mem hj, hp⟩
    refine wpAny_pure (wpAny_pure ?_)
    have z := h s.heap false (Heap.SameBut.refl a s.heap) (by unfold addS; rw [if_pos hx]; exact ⟨o, o1, x1, es, ep, t, d1, el, ⟨ss', s1, s2⟩, b1, f1, l1, p1⟩)
    have e : s = { s with heap := s.heap } := by cases s; rfl
    rw [e]; exact z
  | none =>
    dsimp only
    have hx : x ∉ ss := fun z => by
      obtain ⟨e, he, q⟩ := mem.mpr z
      have := List.findIdx?_eq_none_iff.mp hr e he
      rw [q] at this; cases this
    have eS : addS ss x = ss ++ [x] := if_neg hx
    rw [eS] at h
    have lp := layNew_perm t es (hashStr w x) (.str x tk)
    have lf := layNew_fits t es (hashStr w x) (.str x tk)
    have ll := lay_led t es (hashStr w x) (.str x tk)
    generalize layNew t es (hashStr w x) (.str x tk) = L at lp lf ll ⊢
    obtain ⟨es1, t1, wd, gv⟩ := L
    dsimp only at lp lf ll ⊢
    rw [Array.toList_push] at lp
    have el1 : ElemsOf (strKind P w) es1.toList := (el.push hk hsc).perm lp
    have sp1 : ∃ ss', StrsAre (es1.toList.map (·.2)) ss' ∧ ss'.Perm (ss ++ [x]) := by
      have s3 : StrsAre ((es.toList ++ [(hashStr w x, Value.str x tk)]).map (·.2)) (ss' ++ [x]) := by
        rw [List.map_append]; exact strs_snoc s1
      obtain ⟨s4, q1, q2⟩ := strs_perm (lp.map (·.2)) s3
      exact ⟨s4, q1, q2.trans (s2.append_right _)⟩
    have n1 : es1.size = es.size + 1 := by rw [← Array.length_toList, lp.length_eq]; simp
    have b2 : es1.size < scanBound := by omega
    have l2 : btx w = true ∨ t1.led = true := by rw [ll]; exact l1
    have gw : ∀ (b : Bool) (s₁ : Shared) (Q' : Unit → Shared → Prop), Q' () s₁ → wpAny (model P w) A (match b with | true => rule "set.scan.the-table-gave-way" | false => pure ()) Q' E s₁ :=
      fun b s₁ Q' z => by cases b <;> first | exact wpAny_pure z | exact wpAny_rule z
    refine wpAny_bind (gw _ _ _ ?_)
    split
    · refine wpAny_bind ?_
      rw [hashByValue_scannable 8 hsc]
      refine wpAny_pure ?_
      refine wp_addTail gw o1 x1 d1 el1 sp1 b2 (SetTable.fits_plain_off lf) l2 rfl fun h' sb S' => wpAny_pure (h h' true sb S')
    · rename_i hp
      refine wpAny_bind (wpAny_pure ?_)
      rw [if_pos rfl]
      exact wp_addTail gw o1 x1 d1 el1 sp1 b2 lf l2 (by simpa using hp) fun h' sb S' => wpAny_pure (h h' true sb S')
end
end L2

namespace L2
open PySem PySem.Spec PyProof.Rows PySem.W PySem.Calls
/-! set(texts) -/
def metS (val : Nat → Str) (i : Nat) : List Str := ((List.range i).map val).foldl addS []
theorem metS_succ (val : Nat → Str) (i : Nat) : metS val (i + 1) = addS (metS val i) (val i) := by
  unfold metS; rw [List.range_succ, List.map_append, List.foldl_append]; rfl
theorem metS_le (val : Nat → Str) : ∀ i, (metS val i).length ≤ i
  | 0 => Nat.le_refl _
  | i + 1 => by
    have ih := metS_le val i
    rw [metS_succ]; unfold addS
    split
    · omega
    · simp; omega
theorem addS_mem {ss : List Str} {x y : Str} : y ∈ addS ss x ↔ y ∈ ss ∨ y = x := by
  unfold addS
  split
  · rename_i hx
    exact ⟨.inl, fun z => z.elim id fun e => by subst e; exact hx⟩
  · simp
theorem foldS_mem {y : Str} : ∀ {l ss : List Str}, y ∈ l.foldl addS ss ↔ y ∈ ss ∨ y ∈ l
  | [], ss => by simp
  | a :: l, ss => by rw [List.foldl_cons, foldS_mem, addS_mem, List.mem_cons]; exact or_assoc
theorem TxS.stay {P : Program} {w : World} {h h' : Heap} {a : Addr} {ss : List Str} (x : TxS P w h a ss) (k : ∀ o, h.get? a = some o → h'.get? a = some o) : TxS P w h' a ss :=
  let ⟨o, e, r⟩ := x; ⟨o, k o e, r⟩
section
variable {P : Program} {w : World} {A : Around} {R : Result → Shared → Prop} {I : Addr} {fp wr : List Addr} {G : Array GenState → Array GenState → Prop} {n : Nat} {Pv : Nat → Value → Prop} {St : Nat → Shared → Prop}
theorem loop_addT (W : WalksS P w A.in1 I fp wr G n Pv St) (S : Addr) (hSf : S ∉ fp) (val : Nat → Str) (hval : ∀ i v, Pv i v → ∃ t, v = .str (val i) t) (hb : n + 1 < scanBound) :
    ∀ (k i : Nat) (s : Shared), n - i = k → i ≤ n → St i s → TxS P w s.heap S (metS val i) →
      (∀ s', Moved (S :: wr) G s s' → TxS P w s'.heap S (metS val n) → R (.ok (.ret .none)) s') → codeAny (model P w) A (.builtin "set.update.loop" ⟨[.ref S, .ref I], []⟩) R s := by
  have sw : S ∉ wr := fun z => hSf (W.sub _ z)
  have sub : ∀ b ∈ wr, b ∈ S :: wr := fun b z => List.mem_cons_of_mem _ z
  intro k
  induction k with
  | zero =>
    intro i s e1 e2 st hS q
    obtain rfl : i = n := by omega
    refine codeAny_builtin PyProof.Rows.F.entry_set_update_loop ?_
    rw [Around.under_plainId PyProof.Rows.F.plain_set_update_loop _]
    show wpAny _ A.in1 (pyNext (.ref I) >>= _) _ _ s
    exact wpAny_bind (W.done s _ _ st fun s' m => wpAny_pure (q s' (m.mono sub) (hS.stay fun o e => m.heap S o sw e)))
  | succ k ih =>
    intro i s e1 e2 st hS q
    have lt : i < n := by omega
    refine codeAny_builtin PyProof.Rows.F.entry_set_update_loop ?_
    rw [Around.under_plainId PyProof.Rows.F.plain_set_update_loop _]
    show wpAny _ A.in1 (pyNext (.ref I) >>= _) _ _ s
    refine wpAny_bind (W.item i s _ _ lt st fun v s' hP st' m => ?_)
    obtain ⟨t, rfl⟩ := hval i v hP
    have hS' := hS.stay (h' := s'.heap) fun o e => m.heap S o sw e
    show wpAny _ A.in1 (holding [Value.str (val i) t] (setAdd S (.str (val i) t)) >>= _) _ _ s'
    refine wpAny_bind (wpAny_holding ?_)
    unfold setAdd
    refine wpAny_holding (wpAny_bind ((strKind P w).pyHash (k := val i) (strKind_is _ _ _ _) ?_))
    have rm : (metS val i).length + 1 < scanBound := by have := metS_le val i; omega
    refine wp_addT (s := { s' with toks := s'.toks + 1 }) hS' rm fun h' b sb S2 => ?_
    rw [← metS_succ] at S2
    refine wpAny_pure ⟨plainId_quiet PyProof.Rows.F.plain_set_update_loop _, ih (i + 1) _ (by omega) lt (W.frame _ s' _ _ st' (Nat.le_succ _) fun b hb o e => ?_) S2 fun s2 m2 S3 => ?_⟩
    · rw [sb.2 b (fun z : b = S => hSf (by rw [← z]; exact hb))]; exact e
    · refine q s2 (Moved.trans W.gtrans ((m.mono sub).then_heap (Nat.le_succ _) fun b o hb e => ?_) m2) S3
      rw [sb.2 b (fun z : b = S => hb (by rw [z]; exact List.mem_cons_self))]; exact e
end
section
variable {P : Program} {w : World} {A : Around} {E : Value → Shared → Prop} {s : Shared}
theorem new_setT (a : Value) {Q₁ : Value → Shared → Prop}
    (h : Q₁ (.ref s.heap.objs.size) { s with heap := s.heap.push { cls := .type "set", dict := none, data := .set #[] 0 (.fresh 0 0 (!btx w)) } }) :
    codeAny (model P w) A (.call (.builtin "set.__new__") ⟨[.type "set", a], []⟩) (wants Q₁ E) s := by
  refine codeAny_of_tree ?_
  show wpAny _ A.in1 (checkBuiltinCall "set.__new__" ⟨[.type "set", a], []⟩ >>= fun _ => again (.builtin "set.__new__" ⟨[.type "set", a], []⟩)) _ _ s
  refine wpAny_bind (wpAny_of_eq (PySem.F.newCall_set_1 a) (wpAny_pure ⟨plainId_quiet PySem.F.plain_set_new _, codeAny_builtin PySem.F.entry_set_new ?_⟩))
  rw [Around.under_plainId PySem.F.plain_set_new _]
  unfold Builtin.«set.__new__» Builtin.Frozenset.newClass
  have hsb := sub_set_self
  obtain ⟨hp, g, d, tk, os⟩ := s
  dsimp only
  wp_walk
  refine wpAny_askSetting (wpAny_pure ?_)
  dsimp only
  simp only [newObj]
  exact wpAny_bind (wpAny_alloc (wpAny_pure (wpAny_pure h)))
theorem TxS.fresh {h : Heap} {a : Addr} (e : h.get? a = some { cls := .type "set", dict := none, data := .set #[] 0 (.fresh 0 0 (!btx w)) }) : TxS P w h a [] := by
  refine ⟨_, e, ⟨rfl, rfl, rfl⟩, #[], 0, _, rfl, fun e he => by simp at he, ⟨[], .nil, .refl _⟩, by decide, rfl, ?_, fun z => absurd rfl z⟩
  cases hb : btx w with
  | true => exact .inl rfl
  | false => exact .inr rfl
set_option maxHeartbeats 3200000 in
theorem call_setT {l : Addr} {items : Array Value} {ss : List Str} {Q : Value → Shared → Prop}
    (hh : A.handled = none) (hl : s.heap.IsList l items) (hi : StrsAre items.toList ss) (hb : items.size + 1 < scanBound)
    (h : ∀ (h' : Heap) (tk : Nat), TxS P w h' s.heap.objs.size (ss.foldl addS []) → (∀ b o, s.heap.get? b = some o → h'.get? b = some o) → Q (.ref s.heap.objs.size) { s with heap := h', toks := tk }) :
    wpAny (model P w) A (call (.type "set") [.ref l]) Q E s := by
  obtain ⟨c, tl, hmro⟩ := PySem.F.called_set.mro
  have hmade := PySem.F.called_set.made
  have hsub := PySem.F.called_set.sub
  refine wpAny_call (codeAny_of_tree ?_)
  show wpAny _ _ (callAny (.type "set") _) _ _ _
  refine wpAny_pure ⟨Code.quiet_builtin _ (by decide +kernel), codeAny_builtin PySem.F.entry_type_call ?_⟩
  rw [Around.under_plain (weight_type_call_type "set" [.ref l] []) rfl]
  have h1 := PySem.F.called_set.notType
  have h2 := PySem.F.called_set.canCreate
  have hct := PySem.F.typeCall_set_1 (.ref l)
  repeat (any_goals (first | assumption | wp_step))
  generalize hob : ({ cls := .type "set", dict := none, data := .set #[] 0 (.fresh 0 0 (!btx w)) } : Obj) = ob
  refine codeAny_mono (new_setT (P := P) (w := w) (.ref l) (E := E) (Q₁ := fun u s₁ => u = .ref s.heap.objs.size ∧ s₁ = { s with heap := s.heap.push ob }) (by subst hob; exact ⟨rfl, rfl⟩)) fun r s₁ hr => ?_
  cases r with
  | error e => exact hr
  | ok fl =>
    cases fl with
    | ret u =>
      obtain ⟨rfl, rfl⟩ := hr
      have hS : (s.heap.push ob).get? s.heap.objs.size = some ob := Heap.get?_push_size _ (by subst hob; rfl)
      have hT : Shared.TypeIs { s with heap := s.heap.push ob } (.ref s.heap.objs.size) "set" := ⟨_, hS, by subst hob; rfl⟩
      have hli := PySem.F.called_set.init.lookup
      have hbi := PySem.F.called_set.init.bind (.ref s.heap.objs.size)
      repeat (any_goals (first | assumption | wp_step))
      refine codeAny_mono (codeAny_call_builtin (R := wants (fun r s₂ => r = .none ∧ ∃ h' tk, s₂ = { s with heap := h', toks := tk } ∧ TxS P w h' s.heap.objs.size (ss.foldl addS []) ∧ ∀ b o, s.heap.get? b = some o → h'.get? b = some o) E)
        PySem.F.called_set.init.plain PySem.F.entry_set_init (check_set_init_1 hT ?_)) fun r₂ s₂ hr₂ => ?_
      · obtain ⟨ol, o1, c1, nl, d1⟩ := hl
        obtain ⟨oc, od, oda, osl⟩ := ol
        simp only at c1 d1
        subst c1; subst d1
        have o2 : (s.heap.push ob).get? l = some { cls := .type "list", dict := od, data := .seq items nl, slots := osl } := Heap.get?_push_of_some _ o1
        have q1 := PySem.F.sub_list_set
        have q2 := PySem.F.sub_list_frozenset
        have q3 : (Value.type "list" == Value.type "dict") = false := by decide
        have l1 : (s.heap.push ob).IsList l items := ⟨_, o2, rfl, nl, rfl⟩
        subst hob
        unfold Builtin.«set.__init__» noKeywords Builtin.Frozenset.updateFrom
        generalize hPI : pyIter = PI
        wp_walk
        subst hPI
        refine wpAny_pyIter_list l1 ?_; refine wpAny_bind (wpAny_runValue ?_)
        have ll : l < s.heap.objs.size := Heap.lt_size o1
        have sz : ∀ ob : Obj, (s.heap.push ob).objs.size = s.heap.objs.size + 1 := fun _ => Heap.size_push _ _
        have n1 : ∀ ob : Obj, l ≠ (s.heap.push ob).objs.size := fun _ => by rw [sz]; exact Nat.ne_of_lt (Nat.lt_succ_of_lt ll)
        have n2 : ∀ ob : Obj, s.heap.objs.size ∉ [(s.heap.push ob).objs.size, l] := fun _ => by
          rw [sz]; simp only [List.mem_cons, List.not_mem_nil, or_false, not_or]; exact ⟨Nat.ne_of_lt (Nat.lt_succ_self _), Nat.ne_of_gt ll⟩
        have hv : ∀ (i : Nat) (v : Value), items[i]? = some v → ∃ t, v = .str ((fun i => (ss[i]?).getD (Str.ofString "")) i) t := fun i v e => by
          rw [← Array.getElem?_toList] at e
          have : ∀ {vs : List Value} {ss : List Str}, StrsAre vs ss → ∀ (i : Nat) (v : Value), vs[i]? = some v → ∃ t, v = .str ((ss[i]?).getD (Str.ofString "")) t := by
            intro vs ss x
            induction x with
            | nil => intro i v e; simp at e
            | cons y t r ih =>
              intro i v e
              cases i with
              | zero => simp at e; exact ⟨t, by rw [← e]; rfl⟩
              | succ i => simp only [List.getElem?_cons_succ] at e ⊢; exact ih i v e
          exact this hi i v e
        have hm : metS (fun i => (ss[i]?).getD (Str.ofString "")) items.size = ss.foldl addS [] := by
          have e : items.size = ss.length := by rw [← strs_len hi, Array.length_toList]
          unfold metS
          rw [e]
          congr 1
          apply List.ext_getElem (by simp)
          intro i a b
          simp at a b ⊢
          rw [List.getElem?_eq_getElem (by omega)]; rfl
        refine loop_addT (Walks.list (show A.in1.in1.in1.handled = none by simp [hh]) _ l (n1 _) items).toS s.heap.objs.size (n2 _) _ hv hb (items.size - 0) 0 _ (by omega) (Nat.zero_le _)
          ⟨⟨_, Heap.get?_push_size _ rfl, rfl, rfl⟩, l1.push _⟩ ?hS0 ?hR
        case hS0 =>
          exact TxS.fresh (Heap.get?_push_of_some _ hS)
        case hR =>
          intro s' m S'
          rw [hm] at S'
          obtain ⟨h', g', d', tk', os'⟩ := s'
          obtain rfl : g' = s.gens := m.gens
          obtain rfl : d' = s.drawn := m.drawn
          obtain rfl : os' = s.os := m.os
          show wpAny _ _ _ _ _ _
          refine wpAny_pure (wpAny_pure ⟨rfl, h', tk', rfl, S', fun b o e => ?_⟩)
          have hb1 : b < s.heap.objs.size := Heap.lt_size e
          refine m.heap b o ?_ (Heap.get?_push_of_some _ (Heap.get?_push_of_some _ e))
          rw [sz]; simp only [List.mem_cons, List.not_mem_nil, or_false, not_or]; exact ⟨Nat.ne_of_lt hb1, Nat.ne_of_lt (Nat.lt_succ_of_lt hb1)⟩
      · cases r₂ with
        | error e => exact hr₂
        | ok fl₂ =>
          cases fl₂ with
          | ret r =>
            obtain ⟨rfl, h', tk, rfl, S', k'⟩ := hr₂
            repeat (any_goals (first | assumption | wp_step))
            exact h _ _ S' k'
          | _ => exact hr₂.elim
    | _ => exact hr.elim
end
end L2

namespace L2
open PySem PySem.Spec PyProof.Rows PySem.W PySem.Calls
/-! a walk over a set of texts -/
theorem slot_sit : Slot "set_iterator" "__next__" "set_iterator.__next__" :=
  .of (owner := "set_iterator") (n := "__next__") (by rw [typeLookup_type, builtinLookup_eq_fast]; kernel_rfl) (by decide +kernel) (by decide +kernel) (by decide +kernel)
    (by first | exact .inl (by decide +kernel) | exact .inr (by decide +kernel)) (by rw [isSubtype_type]; kernel_rfl)
theorem entry_sit : entryFor table "set_iterator.__next__" = some Builtin.«set_iterator.__next__» := entryFor_of_tree (by kernel_rfl)
theorem owner_sit : Manifest.owners.lookup (String.ofList ['r', 'o', 't', 'a', 'r', 'e', 't', 'i', '_', 't', 'e', 's'].reverse) = some Manifest.sig_set_iterator := by kernel_rfl
theorem args_sit (a : Value) : argsOk "set_iterator.__next__" ⟨[a], []⟩ := by
  unfold argsOk
  rw [signature?_of (id := "set_iterator.__next__") (n := ['_', '_', 't', 'x', 'e', 'n', '_', '_']) (o := ['r', 'o', 't', 'a', 'r', 'e', 't', 'i', '_', 't', 'e', 's']) (by kernel_rfl) owner_sit]; kernel_rfl
theorem entry_setit : entryFor table "set.__iter__" = some Builtin.«frozenset.__iter__» := entryFor_alias (id' := "frozenset.__iter__") (by kernel_rfl) rfl (by decide +kernel) (by kernel_rfl)
theorem erase_perm {α : Type} : ∀ {l : List α} {i : Nat} (h : i < l.length), (l[i] :: l.eraseIdx i).Perm l
  | a :: l, 0, h => .refl _
  | a :: l, i + 1, h => by
    have := erase_perm (l := l) (i := i) (by simpa using h)
    simp only [List.getElem_cons_succ, List.eraseIdx_cons_succ]
    exact (List.Perm.swap _ _ _).trans (this.cons a)
theorem pick_perm {α : Type} (next : Nat → Nat) : ∀ (f k : Nat) (left : List α) (out : Array α), f = left.length → (pickOrder.go next f k left out).toList.Perm (out.toList ++ left)
  | 0, k, left, out, e => by
    rw [List.eq_nil_of_length_eq_zero e.symm]; unfold pickOrder.go; simp
  | f + 1, k, left, out, e => by
    unfold pickOrder.go
    have hlt : next k % left.length < left.length := Nat.mod_lt _ (by omega)
    rw [List.getElem?_eq_getElem hlt]
    refine (pick_perm next f (k + 1) _ _ (by rw [List.length_eraseIdx_of_lt hlt]; omega)).trans ?_
    rw [Array.toList_push, List.append_assoc]
    exact List.Perm.append_left _ (erase_perm hlt)
theorem pickP {α : Type} (next : Nat → Nat) (xs : Array α) : (pickOrder next xs).toList.Perm xs.toList := by
  have := pick_perm next xs.size 0 xs.toList #[] (by simp)
  simpa [pickOrder] using this
section
variable {P : Program} {w : World} {A : Around} {E : Value → Shared → Prop}
theorem wp_draw {α : Type} : ∀ (n : Nat) (xs : List α) (s : Shared) (Q : List α → Shared → Prop), n = xs.length → (∀ ys d, ys.Perm xs → Q ys { s with drawn := d }) → wpAny (model P w) A (drawOrder n xs) Q E s
  | 0, xs, s, Q, e, q => by
    rw [List.eq_nil_of_length_eq_zero e.symm] at q ⊢
    unfold drawOrder
    exact wpAny_pure (q [] s.drawn (.refl _))
  | n + 1, [], s, Q, e, q => by cases e
  | n + 1, x :: xs, s, Q, e, q => by
    unfold drawOrder
    refine wpAny_bind ?_
    intro Γ p hΓ
    refine ⟨by simp, ?_⟩
    generalize hi : (model P w).w.draws .order (s.drawn.get .order) % (x :: xs).length = i
    have hlt : i < (x :: xs).length := by rw [← hi]; exact Nat.mod_lt _ (by simp)
    have key : wpAny (model P w) A (match (x :: xs)[i]? with | some y => (do return y :: (← drawOrder n ((x :: xs).eraseIdx i))) | none => unsupported "internal:drawOrder") Q E { s with drawn := s.drawn.bump .order } := by
      rw [List.getElem?_eq_getElem hlt]
      refine wpAny_bind (wp_draw n _ _ _ (by rw [List.length_eraseIdx_of_lt hlt]; simp at e ⊢; omega) fun ys d hp => wpAny_pure (q _ d ?_))
      exact (hp.cons _).trans (erase_perm hlt)
    exact key
end
/-- the iterator's fields -/
def IsSit (h : Heap) (it : Addr) (f : Value) (i : Nat) (a : Addr) (n ep : Nat) : Prop := ∃ o, h.get? it = some o ∧ o.cls = .type "set_iterator" ∧ o.data = .fields #[f, .int i 0, .ref a, .int n 0, .int ep 0]
theorem IsSit.typeIs {s : Shared} {it f i a n ep} (x : IsSit s.heap it f i a n ep) : s.TypeIs (.ref it) "set_iterator" := let ⟨o, h, c, _⟩ := x; ⟨o, h, c⟩
section
variable {P : Program} {w : World} {A : Around} {E : Value → Shared → Prop} {s : Shared} {a : Addr} {o : Obj} {es : Array (Int × Value)} {ep : Nat} {t : SetTable}
theorem wp_nextA {slot i : Nat} {Q : Option (Value × Nat) → Shared → Prop} (hb : btx w = true) (o1 : s.heap.get? a = some o) (d1 : o.data = .set es ep t) (f1 : t.fits es.size = true)
    (h : Q (((pickOrder (w.params.setOrder a ep) es)[i]?).map fun e => (e.2, slot)) s) : wpAny (model P w) A (setNext a slot i ep) Q E s := by
  unfold setNext setWalk setsByText
  refine wpAny_bind (wpAny_setState_of o1 d1 f1 (wpAny_bind (wpAny_bind (wpAny_askSetting (wpAny_pure ?_)))))
  rw [if_pos (show (model P w).w.params.followText "set-order" = true from hb)]
  rw [if_neg (by simp)]
  refine wpAny_bind (wpAny_bind (wpAny_setState_of o1 d1 f1 (wpAny_bind (wpAny_bind (wpAny_askSetting (wpAny_pure ?_))))))
  rw [if_pos (show (model P w).w.params.followText "set-order" = true from hb)]
  exact wpAny_bind (wpAny_askSetting (wpAny_pure (wpAny_pure h)))
theorem wp_nextC {slot i : Nat} {Q : Option (Value × Nat) → Shared → Prop} (hb : btx w = false) (o1 : s.heap.get? a = some o) (d1 : o.data = .set es ep t) (f1 : t.fits es.size = true) (hd : es.size ≤ 1) (hl : t.led = true)
    (h : Q (match es[SetTable.below t.place slot]?, t.place[SetTable.below t.place slot]? with | some (_, x), some j => some (x, j + 1) | _, _ => none) s) : wpAny (model P w) A (setNext a slot i ep) Q E s := by
  unfold setNext setsByText
  refine wpAny_bind (wpAny_setState_of o1 d1 f1 (wpAny_bind (wpAny_bind (wpAny_askSetting (wpAny_pure ?_)))))
  rw [if_neg (show ¬ (model P w).w.params.followText "set-order" = true from by show ¬ btx w = true; rw [hb]; decide)]
  show wpAny _ _ (if (!t.plain && decide (es.size > 1)) = true then _ else _) _ _ _
  rw [if_neg (by simp; omega)]
  refine wpAny_bind (m := if (!t.led && !es.isEmpty) = true then unsupported "set:maker-not-led" else pure ()) ?_
  rw [if_neg (by simp [hl])]
  exact wpAny_pure (wpAny_pure h)
theorem sit_item {it : Addr} {slot slot' i : Nat} {x : Value} {Q : Option Value → Shared → Prop} (hit : IsSit s.heap it (.int slot 0) i a es.size ep) (o1 : s.heap.get? a = some o) (d1 : o.data = .set es ep t) (f1 : t.fits es.size = true)
    (nx : ∀ E' Q', Q' (some (x, slot')) s → wpAny (model P w) A.in1 (setNext a slot i ep) Q' E' s)
    (hQ : ∀ h', IsSit h' it (.int slot' 0) (i + 1) a es.size ep → Heap.SameBut it s.heap h' → Q (some x) { s with heap := h' }) : wpAny (model P w) A (pyNext (.ref it)) Q E s := by
  obtain ⟨u, u1, c1, e1⟩ := id hit
  unfold pyNext
  refine wpAny_bind (wpAny_attempt (wpAny_callSpecial?_slot (name := Str.ofString "__next__") hit.typeIs slot_sit (wpAny_call_entry slot_sit hit.typeIs entry_sit ?_ (args_sit _))))
  unfold Builtin.«set_iterator.__next__»
  refine wpAny_bind (m := slotArgs _ _ _) (wpAny_pure (wpAny_bind (wpAny_fieldsOf u1 e1 ?_)))
  show wpAny _ _ (setEntries a >>= _) _ _ s
  refine wpAny_bind (wpAny_setEntries_of o1 d1 f1 ?_)
  rw [if_neg (by simp)]
  show wpAny _ _ (setNext a ((slot : Int)).toNat ((i : Int)).toNat ((ep : Int)).toNat >>= _) _ _ s
  simp only [Int.toNat_natCast]
  refine wpAny_bind (nx _ _ ?_)
  show wpAny _ _ (setField (.ref it) 0 (rawInt (slot' : Int)) >>= _) _ _ s
  refine wpAny_bind (wpAny_setField u1 e1 (by simp) ?_)
  have g1 := Heap.get?_update_self (Obj.mapFields (·.setIfInBounds 0 (rawInt (slot' : Int)))) u1 (Obj.isFreed_of_fields (Obj.data_mapFields e1 _))
  have k1 := Obj.data_mapFields e1 (·.setIfInBounds 0 (rawInt (slot' : Int)))
  refine wpAny_bind (wpAny_setField g1 k1 (by simp) (wpAny_pure ⟨x, rfl, wpAny_pure (hQ _ ?_ ((Heap.SameBut.update ..).trans (Heap.SameBut.update ..)))⟩))
  refine ⟨_, Heap.get?_update_self _ g1 (Obj.isFreed_of_fields (Obj.data_mapFields k1 _)), (Obj.cls_mapFields ..).trans ((Obj.cls_mapFields ..).trans c1), ?_⟩
  rw [Obj.data_mapFields k1]; simp [rawInt]
theorem sit_itemT {it pl : Addr} {i k : Nat} {hk : Int} {x : Value} {ol : Obj} {ps : Array Value} {nl : Nat} {Q : Option Value → Shared → Prop} (hit : IsSit s.heap it (.ref pl) i a es.size ep) (o1 : s.heap.get? a = some o) (d1 : o.data = .set es ep t) (f1 : t.fits es.size = true)
    (l1 : s.heap.get? pl = some ol) (l2 : ol.data = .seq ps nl) (p1 : ps[i]? = some (.int (k : Int) 0)) (x1 : es[k]? = some (hk, x))
    (hQ : ∀ h', IsSit h' it (.ref pl) (i + 1) a es.size ep → Heap.SameBut it s.heap h' → Q (some x) { s with heap := h' }) : wpAny (model P w) A (pyNext (.ref it)) Q E s := by
  obtain ⟨u, u1, c1, e1⟩ := id hit
  unfold pyNext
  refine wpAny_bind (wpAny_attempt (wpAny_callSpecial?_slot (name := Str.ofString "__next__") hit.typeIs slot_sit (wpAny_call_entry slot_sit hit.typeIs entry_sit ?_ (args_sit _))))
  unfold Builtin.«set_iterator.__next__»
  refine wpAny_bind (m := slotArgs _ _ _) (wpAny_pure (wpAny_bind (wpAny_fieldsOf u1 e1 ?_)))
  show wpAny _ _ (setEntries a >>= _) _ _ s
  refine wpAny_bind (wpAny_setEntries_of o1 d1 f1 ?_)
  rw [if_neg (by simp)]
  show wpAny _ _ (seqItems? (.ref pl) >>= _) _ _ s
  refine wpAny_bind (wpAny_seqItems l1 l2 ?_)
  simp only [Int.toNat_natCast, p1]
  refine wpAny_bind ?_
  unfold setNextDrawn
  refine wpAny_bind (wpAny_setState_of o1 d1 f1 ?_)
  simp only [Int.toNat_natCast]
  rw [if_neg (by simp), x1]
  refine wpAny_pure (wpAny_bind (wpAny_setField u1 e1 (by simp) (wpAny_pure ⟨x, rfl, wpAny_pure (hQ _ ?_ (Heap.SameBut.update ..))⟩)))
  refine ⟨_, Heap.get?_update_self _ u1 (Obj.isFreed_of_fields (Obj.data_mapFields e1 _)), (Obj.cls_mapFields ..).trans c1, ?_⟩
  rw [Obj.data_mapFields e1]; simp [rawInt]
theorem sit_end {it : Addr} {slot i : Nat} {Q : Option Value → Shared → Prop} (hh : A.handled = none) (hit : IsSit s.heap it (.int slot 0) i a es.size ep) (o1 : s.heap.get? a = some o) (d1 : o.data = .set es ep t) (f1 : t.fits es.size = true)
    (nx : ∀ E' Q', Q' none s → wpAny (model P w) A.in1 (setNext a slot i ep) Q' E' s)
    (hQ : ∀ h', Heap.ExtBut it s.heap h' → Q none { s with heap := h' }) : wpAny (model P w) A (pyNext (.ref it)) Q E s := by
  obtain ⟨u, u1, c1, e1⟩ := id hit
  unfold pyNext
  refine wpAny_bind (wpAny_attempt (wpAny_callSpecial?_slot (name := Str.ofString "__next__") hit.typeIs slot_sit (wpAny_call_entry slot_sit hit.typeIs entry_sit ?_ (args_sit _))))
  unfold Builtin.«set_iterator.__next__»
  refine wpAny_bind (m := slotArgs _ _ _) (wpAny_pure (wpAny_bind (wpAny_fieldsOf u1 e1 ?_)))
  show wpAny _ _ (setEntries a >>= _) _ _ s
  refine wpAny_bind (wpAny_setEntries_of o1 d1 f1 ?_)
  rw [if_neg (by simp)]
  show wpAny _ _ (setNext a ((slot : Int)).toNat ((i : Int)).toNat ((ep : Int)).toNat >>= _) _ _ s
  simp only [Int.toNat_natCast]
  refine wpAny_bind (nx _ _ ?_)
  show wpAny _ _ (setField (.ref it) 2 .none >>= _) _ _ s
  refine wpAny_bind (wpAny_setField u1 e1 (by simp) ?_)
  refine wpAny_bind (m := newExc (.type "StopIteration") []) ?_
  simp only [newExc, newTuple]
  refine wpAny_bind (wpAny_newObj_type ?_ (by size_fits)); refine wpAny_bind (m := firstArgMember _ _) (wpAny_of_eq (a := Value.none) (by first | rfl | (simp only [firstArgMember]; rfl)) ?_)
  refine wpAny_newObj_type ?_ (by size_fits)
  simp only [raiseNew]
  refine wpAny_bind (wpAny_handled ?_); rw [show A.in1.handled = none from hh]
  refine wpAny_bind (wpAny_pure (wpAny_throw ?_)); refine wpAny_bind (wpAny_isInstance (T := "StopIteration") (b := true) ⟨_, Heap.get?_push_size _ rfl, rfl⟩ isSubtype_stop ?_)
  exact wpAny_pure (hQ _ (((Heap.SameBut.update ..).extBut.push _).push _))
theorem sit_endT {it pl : Addr} {i : Nat} {ol : Obj} {ps : Array Value} {nl : Nat} {Q : Option Value → Shared → Prop} (hh : A.handled = none) (hit : IsSit s.heap it (.ref pl) i a es.size ep) (o1 : s.heap.get? a = some o) (d1 : o.data = .set es ep t) (f1 : t.fits es.size = true)
    (l1 : s.heap.get? pl = some ol) (l2 : ol.data = .seq ps nl) (p1 : ps[i]? = none)
    (hQ : ∀ h', Heap.ExtBut it s.heap h' → Q none { s with heap := h' }) : wpAny (model P w) A (pyNext (.ref it)) Q E s := by
  obtain ⟨u, u1, c1, e1⟩ := id hit
  unfold pyNext
  refine wpAny_bind (wpAny_attempt (wpAny_callSpecial?_slot (name := Str.ofString "__next__") hit.typeIs slot_sit (wpAny_call_entry slot_sit hit.typeIs entry_sit ?_ (args_sit _))))
  unfold Builtin.«set_iterator.__next__»
  refine wpAny_bind (m := slotArgs _ _ _) (wpAny_pure (wpAny_bind (wpAny_fieldsOf u1 e1 ?_)))
  show wpAny _ _ (setEntries a >>= _) _ _ s
  refine wpAny_bind (wpAny_setEntries_of o1 d1 f1 ?_)
  rw [if_neg (by simp)]
  show wpAny _ _ (seqItems? (.ref pl) >>= _) _ _ s
  refine wpAny_bind (wpAny_seqItems l1 l2 ?_)
  simp only [Int.toNat_natCast, p1]
  show wpAny _ _ (setField (.ref it) 0 (rawInt 0) >>= _) _ _ s
  refine wpAny_bind (wpAny_setField u1 e1 (by simp) ?_)
  have g1 := Heap.get?_update_self (Obj.mapFields (·.setIfInBounds 0 (rawInt 0))) u1 (Obj.isFreed_of_fields (Obj.data_mapFields e1 _))
  have k1 := Obj.data_mapFields e1 (·.setIfInBounds 0 (rawInt 0))
  refine wpAny_bind (wpAny_setField g1 k1 (by simp) ?_)
  refine wpAny_bind (m := newExc (.type "StopIteration") []) ?_
  simp only [newExc, newTuple]
  refine wpAny_bind (wpAny_newObj_type ?_ (by size_fits)); refine wpAny_bind (m := firstArgMember _ _) (wpAny_of_eq (a := Value.none) (by first | rfl | (simp only [firstArgMember]; rfl)) ?_)
  refine wpAny_newObj_type ?_ (by size_fits)
  simp only [raiseNew]
  refine wpAny_bind (wpAny_handled ?_); rw [show A.in1.handled = none from hh]
  refine wpAny_bind (wpAny_pure (wpAny_throw ?_)); refine wpAny_bind (wpAny_isInstance (T := "StopIteration") (b := true) ⟨_, Heap.get?_push_size _ rfl, rfl⟩ isSubtype_stop ?_)
  exact wpAny_pure (hQ _ ((((Heap.SameBut.update ..).trans (Heap.SameBut.update ..)).extBut.push _).push _))
end
end L2

namespace L2
open PySem PySem.Spec PyProof.Rows PySem.W PySem.Calls
/-! sorted(set(texts)) -/
theorem slot_siti : Slot "set_iterator" "__iter__" "set_iterator.__iter__" :=
  .of (owner := "set_iterator") (n := "__iter__") (by rw [typeLookup_type, builtinLookup_eq_fast]; kernel_rfl) (by decide +kernel) (by decide +kernel) (by decide +kernel)
    (by first | exact .inl (by decide +kernel) | exact .inr (by decide +kernel)) (by rw [isSubtype_type]; kernel_rfl)
theorem entry_siti : entryFor table "set_iterator.__iter__" = some Builtin.«dict_keyiterator.__iter__» := entryFor_alias (id' := "dict_keyiterator.__iter__") (by kernel_rfl) rfl (by decide +kernel) (by kernel_rfl)
theorem args_siti (a : Value) : argsOk "set_iterator.__iter__" ⟨[a], []⟩ := by
  unfold argsOk
  rw [signature?_of (id := "set_iterator.__iter__") (n := ['_', '_', 'r', 'e', 't', 'i', '_', '_']) (o := ['r', 'o', 't', 'a', 'r', 'e', 't', 'i', '_', 't', 'e', 's']) (by kernel_rfl) owner_sit]; kernel_rfl
theorem IsSit.at {h h' : Heap} {it f i a n ep} (x : IsSit h it f i a n ep) (e : ∀ o, h.get? it = some o → h'.get? it = some o) : IsSit h' it f i a n ep := let ⟨o, ho, r⟩ := x; ⟨o, e _ ho, r⟩
section
variable {P : Program} {w : World} {A : Around} {E : Value → Shared → Prop} {s : Shared} {a : Addr} {o : Obj} {es : Array (Int × Value)} {ep : Nat} {t : SetTable}
theorem iter_sit {it : Addr} {f : Value} {i n : Nat} {Q : Value → Shared → Prop} (hit : IsSit s.heap it f i a n ep) (h : Q (.ref it) s) : wpAny (model P w) A (pyIter (.ref it)) Q E s := by
  refine wpAny_pyIter_slot hit.typeIs slot_siti (wpAny_call_entry slot_siti hit.typeIs entry_siti ?_ (args_siti _))
  exact wpAny_bind (m := slotArgs _ _ _) (wpAny_pure (wpAny_pure ⟨_, rfl, "set_iterator", _, hit.typeIs, slot_sit.lookup, h⟩))
theorem walk_int (hh : A.handled = none) (it : Addr) (hne : a ≠ it) (d1 : o.data = .set es ep t) (f1 : t.fits es.size = true) (vs : List Value) (hl : vs.length = es.size) (sl : Nat → Nat)
    (nx : ∀ (s : Shared) (i : Nat) (h : i < vs.length) E' Q', s.heap.get? a = some o → Q' (some (vs[i], sl (i + 1))) s → wpAny (model P w) A.in1 (setNext a (sl i) i ep) Q' E' s)
    (nd : ∀ (s : Shared) E' Q', s.heap.get? a = some o → Q' none s → wpAny (model P w) A.in1 (setNext a (sl es.size) es.size ep) Q' E' s) :
    Walks P w A it [it, a] [it] es.size (fun i v => vs[i]? = some v) (fun i h => IsSit h it (.int (sl i : Nat) 0) i a es.size ep ∧ h.get? a = some o) where
  sub := fun b hb => by rw [List.mem_singleton] at hb; simp [hb]
  frame := fun _ _ _ st hk => ⟨st.1.at fun o e => hk it (by simp) o e, hk a (by simp) o st.2⟩
  item := fun i s Q E hi st hQ => by
    have hi' : i < vs.length := by omega
    refine sit_item st.1 st.2 d1 f1 (fun E' Q' q => nx s i hi' E' Q' st.2 q) fun h' it' sb => ?_
    exact hQ _ h' s.toks (by simp [hi']) ⟨it', by rw [sb.2 a hne]; exact st.2⟩ fun b u hb e => sb.extBut b u (fun z => hb (by simp [z])) e
  done := fun s Q E st hQ => sit_end hh st.1 st.2 d1 f1 (fun E' Q' q => nd s E' Q' st.2 q) fun h' he => hQ h' s.toks fun b u hb e => he b u (fun z => hb (by simp [z])) e
  self := fun _ _ _ _ st hQ => iter_sit st.1 hQ
theorem walk_tup (hh : A.handled = none) (it pl : Addr) (hne : a ≠ it) (hnp : pl ≠ it) (d1 : o.data = .set es ep t) (f1 : t.fits es.size = true) (vs : List Value) (ks : List Nat) {ol : Obj} {nl : Nat} (l2 : ol.data = .seq (ks.map fun (k : Nat) => Value.int (k : Int) 0).toArray nl)
    (hl : ks.length = es.size) (hv : ∀ i k : Nat, ks[i]? = some k → ∃ h x, es[k]? = some (h, x) ∧ vs[i]? = some x) :
    Walks P w A it [it, a, pl] [it] es.size (fun i v => vs[i]? = some v) (fun i h => IsSit h it (.ref pl) i a es.size ep ∧ h.get? a = some o ∧ h.get? pl = some ol) where
  sub := fun b hb => by rw [List.mem_singleton] at hb; simp [hb]
  frame := fun _ _ _ st hk => ⟨st.1.at fun o e => hk it (by simp) o e, hk a (by simp) o st.2.1, hk pl (by simp) ol st.2.2⟩
  item := fun i s Q E hi st hQ => by
    have hi' : i < ks.length := by omega
    obtain ⟨h, x, e1, e2⟩ := hv i ks[i] (by simp [hi'])
    refine sit_itemT st.1 st.2.1 d1 f1 st.2.2 l2 (k := ks[i]) (by simp [hi']) e1 fun h' it' sb => ?_
    exact hQ _ h' s.toks e2 ⟨it', by rw [sb.2 a hne]; exact st.2.1, by rw [sb.2 pl hnp]; exact st.2.2⟩ fun b u hb e => sb.extBut b u (fun z => hb (by simp [z])) e
  done := fun s Q E st hQ => sit_endT hh st.1 st.2.1 d1 f1 st.2.2 l2 (by simp [hl]) fun h' he => hQ h' s.toks fun b u hb e => he b u (fun z => hb (by simp [z])) e
  self := fun _ _ _ _ st hQ => iter_sit st.1 hQ
theorem below_one {j k : Nat} : SetTable.below #[j] k = if j < k then 1 else 0 := by
  unfold SetTable.below
  show SetTable.below.go #[j] k 1 0 1 = _
  simp [SetTable.below.go]
/-- iter(s): a walk over the texts in some order -/
theorem iter_set {ss : List Str} {Q : Value → Shared → Prop} (hh : A.handled = none) (hS : TxS P w s.heap a ss)
    (q : ∀ (I : Addr) (h1 : Heap) (d1 : Drawn) (vs : List Value) (fp wr : List Addr) (n : Nat) (St : Nat → Heap → Prop), (∀ b u, s.heap.get? b = some u → h1.get? b = some u) → (∃ ss', StrsAre vs ss' ∧ ss'.Perm ss) → n = ss.length →
      Walks P w A I fp wr n (fun i v => vs[i]? = some v) St → St 0 h1 → (∀ b ∈ fp, b = a ∨ s.heap.objs.size ≤ b) → (∀ b ∈ wr, s.heap.objs.size ≤ b) → vs.length = n → (∀ b ∈ fp, b < h1.objs.size) → Q (.ref I) { s with heap := h1, drawn := d1 }) :
    wpAny (model P w) A (pyIter (.ref a)) Q E s := by
  obtain ⟨o, o1, x1, es, ep, t, d1, el, ⟨ss', s1, s2⟩, b1, f1, l1, p1⟩ := hS
  have hT : s.TypeIs (.ref a) "set" := ⟨o, o1, x1.1⟩
  have la : a < s.heap.objs.size := Heap.lt_size o1
  have ln : es.size = ss.length := by rw [← s2.length_eq, ← strs_len s1, List.length_map, Array.length_toList]
  refine wpAny_pyIter_slot hT PySem.F.slot_set_iter (wpAny_call_entry PySem.F.slot_set_iter hT entry_setit ?_ (PySem.F.args_set_iter_1 _))
  unfold Builtin.«frozenset.__iter__»
  refine wpAny_bind (m := Builtin.Frozenset.slot0 _ _) (wpAny_pure ?_)
  refine wpAny_bind (m := Builtin.Frozenset.sizeOf a) (wpAny_bind (wpAny_setEntries_of o1 d1 f1 (wpAny_pure ?_)))
  refine wpAny_bind (m := setDrawn a) ?_
  unfold setDrawn setsByText
  refine wpAny_bind (wpAny_setState_of o1 d1 f1 (wpAny_bind (wpAny_bind (wpAny_askSetting (wpAny_pure (wpAny_pure ?_))))))
  show wpAny _ _ (if (!(btx w) && (!t.plain && decide (es.size > 1))) = true then _ else _) _ _ _
  have lastly : ∀ (f : Value) (h1 : Heap) (d : Drawn), h1.get? a = some o → (∀ I h2, h2 = h1.push { cls := .type "set_iterator", data := .fields #[f, .int (0 : Nat) 0, .ref a, .int es.size 0, .int ep 0] } → I = h1.objs.size → Q (.ref I) { s with heap := h2, drawn := d }) →
      wpAny (model P w) A.in1 (setEpoch a >>= fun e => newFields "set_iterator" [f, rawInt 0, .ref a, rawInt es.size, rawInt e] >>= fun v => ret v)
        (fun fin s' => ∃ v, fin = .done (.ret v) ∧ ∃ T' r, s'.TypeIs v T' ∧ typeLookup (.type T') "__next__" = pure (some r) ∧ Q v s') E { s with heap := h1, drawn := d } := by
    intro f h1 d e1 k
    refine wpAny_bind (wpAny_setEpoch_of (s := { s with heap := h1, drawn := d }) e1 d1 f1 ?_)
    refine wpAny_bind (wpAny_newObj_type (wpAny_pure ?_))
    exact ⟨_, rfl, "set_iterator", _, ⟨_, Heap.get?_push_size _ rfl, rfl⟩, slot_sit.lookup, k _ _ rfl rfl⟩
  have szp : ∀ (h : Heap) (ob : Obj), (h.push ob).objs.size = h.objs.size + 1 := fun _ _ => Heap.size_push _ _
  have n0 : a ≠ s.heap.objs.size := Nat.ne_of_lt la
  by_cases hdr : (!(btx w) && (!t.plain && decide (es.size > 1))) = true
  · rw [if_pos hdr]
    refine wpAny_bind (wp_draw es.size (List.range es.size) s _ (by simp) fun ks d hp => wpAny_bind (m := newTuple _) (wpAny_newObj_type ?_ ?_))
    · have lk : ks.length = es.size := by rw [hp.length_eq, List.length_range]
      refine lastly _ (s.heap.push _) d (Heap.get?_push_of_some _ o1) fun I h2 e2 eI => ?_
      subst e2 eI
      have k1 : a ≠ (s.heap.push { cls := .type "tuple", data := .seq (ks.map fun (i : Nat) => rawInt i).toArray }).objs.size := by rw [szp]; exact Nat.ne_of_lt (Nat.lt_succ_of_lt la)
      have k2 : s.heap.objs.size ≠ (s.heap.push { cls := .type "tuple", data := .seq (ks.map fun (i : Nat) => rawInt i).toArray }).objs.size := by rw [szp]; exact Nat.ne_of_lt (Nat.lt_succ_self _)
      have pm : (ks.map fun k => ((es[k]?).map (·.2)).getD .none).Perm (es.toList.map (·.2)) := by
        refine (hp.map _).trans (.of_eq ?_)
        apply List.ext_getElem (by simp)
        intro i a b
        simp at a b ⊢
        rw [Array.getElem?_eq_getElem a]; rfl
      obtain ⟨ss2, q3, q4⟩ := strs_perm pm s1
      refine q _ _ d _ _ _ es.size _ (fun b u e => Heap.get?_push_of_some _ (Heap.get?_push_of_some _ e)) ⟨ss2, q3, q4.trans s2⟩ ln
        (walk_tup hh _ _ k1 k2 d1 f1 _ ks rfl lk (fun i k e => ?_)) ⟨⟨_, Heap.get?_push_size _ rfl, rfl, rfl⟩, Heap.get?_push_of_some _ (Heap.get?_push_of_some _ o1), Heap.get?_push_of_some _ (Heap.get?_push_size _ rfl)⟩ (fun b hb => ?_) (fun b hb => ?_) (by simp [lk]) (fun b hb => ?_)
      · have hk : k < es.size := by
          have := hp.mem_iff.mp (List.mem_of_getElem? e)
          simpa using this
        refine ⟨es[k].1, es[k].2, by simp [hk], ?_⟩
        rw [List.getElem?_map, e]; simp [hk]
      · simp only [List.mem_cons, List.not_mem_nil, or_false] at hb
        rcases hb with rfl | rfl | rfl
        · right; rw [szp]; exact Nat.le_succ _
        · left; rfl
        · right; exact Nat.le_refl _
      · rw [List.mem_singleton] at hb; rw [hb, szp]; exact Nat.le_succ _
      · simp only [List.mem_cons, List.not_mem_nil, or_false] at hb
        rw [szp, szp]
        rcases hb with rfl | rfl | rfl
        · rw [szp]; exact Nat.lt_succ_self _
        · exact Nat.lt_succ_of_lt (Nat.lt_succ_of_lt la)
        · exact Nat.lt_succ_of_lt (Nat.lt_succ_self _)
    · unfold sizeOk; simp [hp.length_eq]
      have : scanBound = 4096 := rfl
      have : sizeLine = 16777216 := by first | rfl | exact sizeLine_eq
      omega
  · rw [if_neg hdr]
    refine wpAny_bind (wpAny_pure ?_)
    have e0 : s = { s with heap := s.heap, drawn := s.drawn } := by cases s; rfl
    show wpAny _ _ _ _ _ { s with heap := s.heap, drawn := s.drawn }
    refine lastly _ s.heap s.drawn o1 fun I h2 e2 eI => ?_
    subst e2 eI
    have fpa : ∀ b ∈ [s.heap.objs.size, a], b = a ∨ s.heap.objs.size ≤ b := fun b hb => by
      simp only [List.mem_cons, List.not_mem_nil, or_false] at hb
      rcases hb with rfl | rfl
      · right; exact Nat.le_refl _
      · left; rfl
    have wra : ∀ b ∈ [s.heap.objs.size], s.heap.objs.size ≤ b := fun b hb => by rw [List.mem_singleton] at hb; rw [hb]; exact Nat.le_refl _
    have fpl : ∀ (ob : Obj), ∀ b ∈ [s.heap.objs.size, a], b < (s.heap.push ob).objs.size := fun ob b hb => by
      rw [szp]
      simp only [List.mem_cons, List.not_mem_nil, or_false] at hb
      rcases hb with rfl | rfl
      · exact Nat.lt_succ_self _
      · exact Nat.lt_succ_of_lt la
    cases hb : btx w with
    | true =>
      have pm := pickP (w.params.setOrder a ep) es
      obtain ⟨ss2, q3, q4⟩ := strs_perm (pm.map (·.2)) s1
      have lp : ((pickOrder (w.params.setOrder a ep) es).toList.map (·.2)).length = es.size := by rw [List.length_map, pm.length_eq, Array.length_toList]
      refine q _ _ s.drawn _ _ _ es.size _ (fun b u e => Heap.get?_push_of_some _ e) ⟨ss2, q3, q4.trans s2⟩ ln
        (walk_int hh _ n0 d1 f1 _ lp (fun _ => 0) (fun s i hi E' Q' g z => wp_nextA hb g d1 f1 ?_) (fun s E' Q' g z => wp_nextA hb g d1 f1 ?_)) ⟨⟨_, Heap.get?_push_size _ rfl, rfl, rfl⟩, Heap.get?_push_of_some _ o1⟩ fpa wra lp (fpl _)
      · have hi' : i < (pickOrder (w.params.setOrder a ep) es).size := by rw [← Array.length_toList, ← List.length_map (f := (·.2))]; exact hi
        rw [Array.getElem?_eq_getElem hi']
        simpa using z
      · have : (pickOrder (w.params.setOrder a ep) es).size = es.size := by rw [← Array.length_toList, pm.length_eq, Array.length_toList]
        rw [Array.getElem?_eq_none (by omega)]; exact z
    | false =>
      have hled : t.led = true := by
        rcases l1 with l1 | l1
        · rw [hb] at l1; cases l1
        · exact l1
      have hsz : es.size ≤ 1 := by
        rcases Nat.lt_or_ge 1 es.size with z | z
        · exfalso; apply hdr; rw [hb, p1 (by omega)]; simpa using z
        · exact z
      have hpl : t.place.size = es.size := by
        simp only [SetTable.fits, Bool.and_eq_true, beq_iff_eq] at f1; exact f1.1
      have lp : (es.toList.map (·.2)).length = es.size := by rw [List.length_map, Array.length_toList]
      refine q _ _ s.drawn _ _ _ es.size _ (fun b u e => Heap.get?_push_of_some _ e) ⟨ss', s1, s2⟩ ln
        (walk_int hh _ n0 d1 f1 _ lp (fun i => if i = 0 then 0 else t.place.getD 0 0 + 1) (fun s i hi E' Q' g z => wp_nextC hb g d1 f1 hsz hled ?_) (fun s E' Q' g z => wp_nextC hb g d1 f1 hsz hled ?_)) ⟨⟨_, Heap.get?_push_size _ rfl, rfl, rfl⟩, Heap.get?_push_of_some _ o1⟩ fpa wra lp (fpl _)
      · have i0 : i = 0 := by omega
        subst i0
        have h1 : es.size = 1 := by omega
        obtain ⟨j, hj⟩ : ∃ j, t.place = #[j] := by
          have : t.place.toList.length = 1 := by rw [Array.length_toList]; omega
          match hq : t.place.toList, this with
          | [j], _ => exact ⟨j, by rw [← Array.toArray_toList (xs := t.place), hq]⟩
        rw [hj] at z ⊢
        rw [if_pos rfl, below_one, if_neg (by omega)]
        have : es[0]? = some es[0] := by simp [h1]
        rw [this]
        simpa using z
      · have hn : es[SetTable.below t.place (if es.size = 0 then 0 else t.place.getD 0 0 + 1)]? = none := by
          by_cases h0 : es.size = 0
          · rw [Array.getElem?_eq_none (by omega)]
          · have h1 : es.size = 1 := by omega
            obtain ⟨j, hj⟩ : ∃ j, t.place = #[j] := by
              have : t.place.toList.length = 1 := by rw [Array.length_toList]; omega
              match hq : t.place.toList, this with
              | [j], _ => exact ⟨j, by rw [← Array.toArray_toList (xs := t.place), hq]⟩
            rw [hj, if_neg h0, below_one, if_pos (by simp)]
            rw [Array.getElem?_eq_none (by omega)]
        rw [hn]; exact z
end
end L2

namespace L2
open PySem PySem.Spec PyProof.Rows PySem.W PySem.Calls
section
variable {P : Program} {w : World} {A : Around} {E : Value → Shared → Prop} {s : Shared} {a : Addr}
theorem hint_set {Q : Bool → Shared → Prop} (hT : s.TypeIs (.ref a) "set") (h : Q false s) : wpAny (model P w) A (Builtin.List.listLengthHint (.ref a)) Q E s := by
  unfold Builtin.List.listLengthHint
  refine wpAny_bind (wpAny_specialOf hT PySem.F.slot_set_len.lookup ?_)
  generalize hid : ("set.__len__" : String) = id0
  wp_delta
  rw [show splitId id0 = some ("set", "__len__") from by subst hid; decide +kernel]
  subst hid
  refine wpAny_bind (wpAny_isInstance (T := "set") (b := true) hT (by rw [isSubtype_type]; kernel_rfl) ?_)
  refine wpAny_ite_split (fun z => absurd z (by decide)) (fun _ => ?_)
  refine wpAny_ite_split (fun _ => ?_) (fun z => absurd (by decide +kernel) z)
  exact wpAny_bind (wpAny_typeOf hT (wpAny_pure h))
theorem extend_set {ss : List Str} {R : Result → Shared → Prop} (hh : A.handled = none) (hS : TxS P w s.heap a ss) (S : Addr) (hSa : S ≠ a) (res : Value) (c₀ : Nat) (l1 : s.heap.get? S = some { cls := .type "list", data := .seq #[] c₀ }) (hn : ss.length ≤ 4096)
    (hR : ∀ h' tk d acc c', (∀ b u, b ≠ S → s.heap.get? b = some u → h'.get? b = some u) → h'.get? S = some { cls := .type "list", dict := none, data := .seq acc c', slots := #[] } → (∃ ss', StrsAre acc.toList ss' ∧ ss'.Perm ss) → R (.ok (.ret res)) { s with heap := h', toks := tk, drawn := d }) :
    wpAny (model P w) A.in1 (Builtin.List.listExtendWith (.ref S) (.ref a) res)
      (fun fin s' => match fin with | .done f => R (.ok f) s' | .again c' => c'.quiet = true ∧ codeAny (model P w) A c' R s') (fun e s' => R (.error e) s') s := by
  obtain ⟨o, o1, x1, rest⟩ := id hS
  have hT : s.TypeIs (.ref a) "set" := ⟨o, o1, x1.1⟩
  have lS : S < s.heap.objs.size := Heap.lt_size l1
  unfold Builtin.List.listExtendWith
  refine wpAny_bind (wpAny_typeOf hT ?_)
  have e1 : Builtin.List.listSameRef (.ref S) (.ref a) = false := by simp [Builtin.List.listSameRef, hSa]
  have e2 : (Value.type "set" == Value.type "list") = false := by decide
  have e3 : (Value.type "set" == Value.type "tuple") = false := by decide
  simp only [e1, e2, e3, Bool.or_false, Bool.false_eq_true, if_false]
  refine wpAny_bind (iter_set (A := A.in1) hh hS fun I h1 d1 vs fp wr n St k1 sv en W st hf hw hlv hfl => ?_)
  have nf : S ∉ fp := fun z => by
    rcases hf S z with e | e
    · exact hSa e
    · exact absurd lS (Nat.not_lt.mpr e)
  have key : ∀ (h : Heap) (c₁ tk : Nat), St 0 h → (∀ b u, b ≠ S → s.heap.get? b = some u → h.get? b = some u) →
      h.get? S = some { cls := .type "list", data := .seq #[] c₁ } → codeAny (model P w) A (.builtin "list.extend.loop" ⟨[.ref S, .ref I, res], []⟩) R { s with heap := h, toks := tk, drawn := d1 } := by
    intro h c₁ tk hst hk g
    refine codeAny_extend_loopS W.toS (Nat.le_trans (by omega : n ≤ 4096) (by decide)) S nf res n 0 _ #[] c₁ rfl (Nat.zero_le _) hst g (ItemsOf.nil _) fun s' acc c' m gq hacc => ?_
    obtain ⟨h', g', d', tk', os'⟩ := s'
    obtain rfl : g' = s.gens := m.gens
    obtain rfl : d' = d1 := m.drawn
    obtain rfl : os' = s.os := m.os
    refine hR h' tk' d' acc c' (fun b u hb e => m.heap b u (fun z => ?_) (hk b u hb e)) gq ?_
    · rcases List.mem_cons.mp z with e' | z
      · exact hb e'
      · exact absurd (Heap.lt_size e) (Nat.not_lt.mpr (hw b z))
    · have ea : acc.toList = vs := by
        apply List.ext_getElem?
        intro i
        rcases Nat.lt_or_ge i n with z | z
        · have hz : i < acc.size := by rw [hacc.1]; exact z
          have : acc[i]? = some acc[i] := Array.getElem?_eq_getElem hz
          rw [Array.getElem?_toList, this, hacc.2 i _ this]
        · rw [List.getElem?_eq_none (by rw [Array.length_toList, hacc.1]; exact z), List.getElem?_eq_none (by omega)]
      rw [ea]; exact sv
  have g1 := k1 S _ l1
  refine wpAny_bind (wpAny_holding (hint_set (s := { s with heap := h1, drawn := d1 }) ⟨o, k1 a o o1, x1.1⟩ ?_))
  refine wpAny_ite_split (fun _ => ?_) (fun _ => wpAny_pure ⟨plainId_quiet PySem.F.plain_extend_loop _, key _ c₀ _ st (fun b u _ e => k1 b u e) g1⟩)
  refine wpAny_bind (wpAny_rule (wpAny_bind ?_))
  show wpAny _ _ (updateSeq S (·.push .none) >>= fun _ => updateSeq S (·.pop)) _ _ { s with heap := h1, drawn := d1 }
  refine wpAny_bind (wpAny_updateSeq g1 rfl ?_)
  have g2 := Heap.get?_update_self (Obj.mapSeq (·.push Value.none)) g1 rfl
  refine wpAny_updateSeq (hz := by seq_fits) g2 rfl ?_
  have g3 := Heap.get?_update_self (Obj.mapSeq (·.pop)) g2 rfl
  refine wpAny_pure ⟨plainId_quiet PySem.F.plain_extend_loop _, key _ _ _ (W.frame 0 _ _ st fun b hb u e => ?_) (fun b u hb e => ?_) g3⟩
  · have hbS : b ≠ S := fun z => nf (z ▸ hb)
    exact (Heap.get?_update_other _ _ (Ne.symm hbS)).trans ((Heap.get?_update_other _ _ (Ne.symm hbS)).trans e)
  · exact (Heap.get?_update_other _ _ (Ne.symm hb)).trans ((Heap.get?_update_other _ _ (Ne.symm hb)).trans (k1 b u e))
theorem collect_set {ss : List Str} {R : List Value → Shared → Prop} (hh : A.handled = none) (hS : TxS P w s.heap a ss) (hn : ss.length ≤ 4096)
    (h : ∀ (h' : Heap) (tk : Nat) (d : Drawn) (vs : List Value), (∀ b u, s.heap.get? b = some u → h'.get? b = some u) → (∃ ss', StrsAre vs ss' ∧ ss'.Perm ss) → R vs { s with heap := h', toks := tk, drawn := d }) :
    wpAny (model P w) A (collect (.ref a)) R E s := by
  have la : a < s.heap.objs.size := by obtain ⟨o, o1, _⟩ := id hS; exact Heap.lt_size o1
  unfold collect
  refine wpAny_bind (wpAny_runValue (codeAny_builtin entry_proto_collect' ?_))
  rw [Around.under_plainId PySem.F.plain_proto_collect _]
  refine wpAny_bind (m := newList []) (wpAny_newObj_type ?_)
  refine wpAny_pure ⟨plainId_quiet PySem.F.plain_list_iadd _, codeAny_builtin entry_list_iadd' ?_⟩
  rw [Around.under_plainId PySem.F.plain_list_iadd _]
  have g1 : (s.heap.push { cls := .type "list", data := .seq ([] : List Value).toArray }).get? s.heap.objs.size = some { cls := .type "list", data := .seq #[] } := Heap.get?_push_size _ rfl
  have key := extend_set (A := A) (s := { s with heap := s.heap.push { cls := .type "list", data := .seq ([] : List Value).toArray } })
    (R := fun (q : Result) (s' : Shared) => ∃ (h' : Heap) (tk : Nat) (d : Drawn) (acc : Array Value) (c' : Nat), q = .ok (.ret (.ref s.heap.objs.size)) ∧ s' = { s with heap := h', toks := tk, drawn := d } ∧
      (∀ b u, s.heap.get? b = some u → h'.get? b = some u) ∧ h'.get? s.heap.objs.size = some { cls := .type "list", dict := none, data := .seq acc c', slots := #[] } ∧ (∃ ss', StrsAre acc.toList ss' ∧ ss'.Perm ss))
    hh (hS.stay fun u e => Heap.get?_push_of_some _ e) s.heap.objs.size (Nat.ne_of_gt la) (.ref s.heap.objs.size) 0 g1 hn
    (fun h' tk d acc c' hk g' hacc => ⟨h', tk, d, acc, c', rfl, rfl, fun b u e => hk b u (Nat.ne_of_lt (Heap.lt_size e)) (Heap.get?_push_of_some _ e), g', hacc⟩)
  refine wpAny_mono key (fun fin s' x => ?_) fun e s' x => ?_
  · cases fin with
    | done f =>
      obtain ⟨h', tk, d, acc, c', e, rfl, hk, g', hacc⟩ := x
      cases e
      exact wpAny_bind (m := load s.heap.objs.size) (wpAny_load g' (wpAny_pure (h h' tk d acc.toList hk hacc)))
    | again c₁ =>
      refine ⟨x.1, codeAny_mono x.2 fun q s₂ y => ?_⟩
      obtain ⟨h', tk, d, acc, c', rfl, rfl, hk, g', hacc⟩ := y
      exact wpAny_bind (m := load s.heap.objs.size) (wpAny_load g' (wpAny_pure (h h' tk d acc.toList hk hacc)))
  · obtain ⟨_, _, _, _, _, e', _⟩ := x
    cases e'
theorem sorted_set {ss : List Str} {Q : Value → Shared → Prop} (hh : A.handled = none) (hS : TxS P w s.heap a ss) (hn : ss.length < 64)
    (h : ∀ (h' h2 : Heap) (tk : Nat) (d : Drawn) (out : Array Value) (e : Nat) (ss' : List Str), (∀ b o, s.heap.get? b = some o → h'.get? b = some o) → (∀ b o, h'.get? b = some o → h2.get? b = some o) → h2.get? h'.objs.size = some (seqObj "list" out e) → StrsAre out.toList ss' → ss'.Perm ss → sortedS ss' = true → Q (.ref h'.objs.size) { s with heap := h2, toks := tk, drawn := d }) :
    wpAny (model P w) A (call (.builtin "sorted") [.ref a]) Q E s := by
  refine Calls.call_function_entry kind_sorted plain_sorted entry_sorted (args_sorted1 _) ?_
  unfold Builtin.«sorted»
  refine wpAny_bind (m := checkCount "sorted" 1 1 _) (wpAny_pure ?_)
  refine wpAny_bind (collect_set (A := A.in1) hh hS (by omega) fun h' tk d vs hk ⟨s1, sv, sp⟩ => ?_)
  have hl : vs.length = ss.length := by rw [strs_len sv, sp.length_eq]
  refine wpAny_bind (wpAny_newList ?_)
  have hoL : (h'.push (seqObj "list" vs.toArray 0)).get? h'.objs.size = some (seqObj "list" vs.toArray 0) := Heap.get?_push_size _ rfl
  refine wpAny_bind (wpAny_holding (wpAny_call_entry slot_list_sort ⟨_, hoL, rfl⟩ entry_list_sort (list_sort_treeK (s := { s with heap := h'.push (seqObj "list" vs.toArray 0), toks := tk, drawn := d }) strKind_oneLt hoL sv.keysOf (fun v₁ v₂ rest e => keyKind_strs (by rw [← e]; exact sv)) (by rw [hl]; exact hn) fun st' a1 a2 => ⟨_, rfl, ?_⟩) (args_list_sort _)))
  obtain ⟨ss', h1, h2, h3⟩ := sorted_out_str sv a1 a2
  obtain ⟨e, he⟩ := sortedHeap_at (n := 0) (vs := vs) (out := (arrOf st').map (·.2)) hoL
  refine wpAny_pure ⟨_, rfl, h h' _ tk d _ e ss' hk (fun b o q => ?_) he h1 (h2.trans sp) h3⟩
  have hlt : b < h'.objs.size := Heap.lt_size q
  rw [sortedHeap_old (Nat.ne_of_lt hlt) (by rw [size_push']; exact Nat.lt_succ_of_lt hlt), Heap.get?_push_ne _ _ _ (Nat.ne_of_lt hlt)]
  exact q
end
end L2

namespace L2
open PySem PySem.Spec PyProof.Rows PySem.W PySem.Calls
def HOtx (P : Program) (w : World) (a : Addr) (ss : List Str) : HO := .ext fun h => TxS P w h a ss
theorem Inv.drw {X : Cx} {pins : List (Addr × Obj)} {σ : List (Option V)} {H : Hp} {s : Shared} {d : Drawn} (I : Inv X pins σ H s) : Inv X pins σ H { s with drawn := d } := ⟨I.ok, I.os, I.bare, I.base, I.loc, I.cell, I.free, I.freeC, I.pin, I.hok, I.len⟩
theorem call_setTx {X : Cx} : CallR X (.type "set") (fun xs H Q => X.calm = true ∧ ∃ (p : Addr) (ss : List Str), xs = [.ref p] ∧ SqL X.K H p (ss.map V.str) ∧ ss.length < 64 ∧ ∀ l, H l = none → Q (.ref l) (upd H l (HOtx X.prog X.w l (ss.foldl addS [])))) := by
  intro pins s σ H xs us Q I r h
  obtain ⟨hc, p, ss, rfl, hq, h64, q⟩ := h
  obtain ⟨u, rfl, rx⟩ := vals1 r
  cases rx
  obtain ⟨its, rv, pl, hz⟩ := I.list hq
  have hlen := rv.length
  rw [List.length_map] at hlen
  refine call_setT (I.ok.hd hc) pl.isList (by simpa using vals_strs rv) (by have : scanBound = 4096 := rfl; simp; omega) fun h' tk S' k' => ?_
  refine ⟨.ref _, _, I.laid (t' := tk) (o := HOtx X.prog X.w _ (ss.foldl addS [])) k' (Nat.le_refl _) ?_, rfl, q _ (I.hok.fresh (Nat.le_refl _))⟩
  obtain ⟨o, e, _⟩ := id S'
  exact ⟨S', ⟨o, e⟩, fun h1 h2 x k => x.stay k⟩
theorem call_sortedTx {X : Cx} : CallR X (.builtin "sorted") (fun xs H Q => X.calm = true ∧ ∃ (a : Addr) (ss : List Str), xs = [.ref a] ∧ H a = some (HOtx X.prog X.w a ss) ∧ ss.length < 64 ∧ ∀ l, H l = none → Q (.ref l) (upd H l (.lst ((sortS ss).map V.str)))) := by
  intro pins s σ H xs us Q I r h
  obtain ⟨hc, a, ss, rfl, ha, h64, q⟩ := h
  obtain ⟨u, rfl, rx⟩ := vals1 r
  cases rx
  obtain ⟨hS, _⟩ := I.hok a _ ha
  refine sorted_set (I.ok.hd hc) hS h64 fun h' h2 tk d out e ss' k1 k2 at2 s1 s2 s3 => ?_
  have es : ss' = sortS ss := sortS_uniq s2 (pw_of_sortedS _ s3)
  subst es
  have hl2 : (sortS ss).length = ss.length := s2.length_eq
  have I1 : Inv X pins σ H { s with heap := h', toks := tk, drawn := d } := (I.kept (t' := tk) k1).drw
  refine ⟨.ref _, _, I1.laid (t' := tk) (o := .lst ((sortS ss).map V.str)) k2 (Nat.le_refl _) ?_, rfl, q _ (I1.hok.fresh (Nat.le_refl _))⟩
  refine ⟨by rw [List.length_map, hl2]; exact Nat.le_trans (Nat.le_of_lt h64) (by decide), out.toList, e, strs_vals s1, ?_⟩
  rw [at2]
theorem foldS_len : ∀ (l ss : List Str), (l.foldl addS ss).length ≤ ss.length + l.length
  | [], ss => by simp
  | a :: l, ss => by
    have := foldS_len l (addS ss a)
    have h : (addS ss a).length ≤ ss.length + 1 := by unfold addS; split <;> simp
    simp only [List.foldl_cons, List.length_cons]; omega
theorem bt_set : bootBuiltins "set" = some (.type "set") := by decide +kernel
section
variable {X : Cx} {H0 : Hp} {O0 : Ex}
def dSortSet (t : DA) : DA := fun δ Q => t δ fun ds => ∃ ss : List Str, ds = [.list (ss.map .str)] ∧ ss.length < 64 ∧ Q ((sortS (ss.foldl addS [])).map .str)
theorem fe_sortSet {a : Expr} {t : DA} {np p np' p' : Pos} (hc : X.calm = true) (hg : Gl X "sorted") (hm : X.mg "sorted" = none) (hv : bootBuiltins "sorted" = some (.builtin "sorted")) (hg' : Gl X "set") (hm' : X.mg "set" = none) (ha : PA X [a] (upB X.K H0 O0 t))
    (he : starEach [a] X.env = (false, eval a X.env) :: starEach [] X.env := by rfl) (hpl : (backTo p' (starEach [] X.env)).any (·.1) = false := by rfl)
    (he' : starEach [.Call (.Name "set" np') [a] [] p'] X.env = (false, eval (.Call (.Name "set" np') [a] [] p') X.env) :: starEach [] X.env := by rfl) (hpl' : (backTo p (starEach [] X.env)).any (·.1) = false := by rfl) :
    FE X H0 O0 (.Call (.Name "sorted" np) [.Call (.Name "set" np') [a] [] p'] [] p) (dSortSet t) :=
  (pe_callB call_sortedTx hg hm hv (pa_cons (pe_callTy call_setTx hg' hm' bt_set ha (he := he) (hpl := hpl)) pa_nil he') (he := he') (hpl := hpl')).imp fun σ H Q ⟨O, δ, Qd, w, q, k⟩ => ⟨O, δ, _, w, q, fun ds vs H1 ⟨ss, e, h64, q1⟩ s1 r1 => by
    subst e
    cases r1 with
    | cons h r =>
      cases r
      obtain ⟨a, us, rfl, h1, d1⟩ := h.lst
      cases d1.strs
      refine ⟨hc, a, ss, rfl, h1, h64, fun l hl => ⟨hc, l, _, rfl, upd_same, by have := foldS_len ss []; simp at this; omega, fun l2 hl2 => ?_⟩⟩
      exact k _ _ _ _ q1 (s1.trans (Same.new hl)) hl2 (Dts.ofStrs _)⟩
end
end L2

namespace L2
open PySem PySem.Spec PyProof.Rows PySem.W PySem.Calls
/-! x.extend(e) -/
section
variable {X : Cx} {H0 : Hp} {O0 : Ex}
def dExt (i : Nat) (t : DA) : DS := fun E δ => ∃ ds, δ[i]? = some (some (.o ds)) ∧ t δ fun es => ds.length + es.length ≤ sizeLine ∧ E.nx (δ.set i (some (.o (ds ++ es))))
theorem ds_ext {i : Nat} {o e : Expr} {t : DA} {apos cpos pos : Pos} (ho : PE X o (tVar i)) (he : FE X H0 O0 e t) (hbase : attributeBase o "extend" X.env (eval o X.env) = eval o X.env := by rfl)
    (hfew : ((backTo cpos (starEach [e] X.env)).all (fun x => !x.1) && (backToKw cpos (keywordEach [] X.env)).all (fun x => x.1.isSome) && decide ([e].length + ([] : List Keyword).length + (if ([] : List Keyword).isEmpty then 0 else 1) < 30)) = true := by rfl)
    (hline : (apos.endLine == cpos.line) = true := by rfl) (hst : starEach [e] X.env = (false, eval e X.env) :: starEach [] X.env := by rfl) (hplain : (backTo cpos (starEach [] X.env)).any (·.1) = false := by rfl)
    (hs : swapsWith (.Call (.Attribute o "extend" apos) [e] [] cpos) none pos.line X.env = pure false := by rfl) : PS X (.Expr (.Call (.Attribute o "extend" apos) [e] [] cpos) pos) (upD X.K H0 O0 (dExt i t)) :=
  (ps_expr (pe_bm PySem.F.plainAttrs_list PySem.F.slot_list_extend PySem.F.type_list_extend mt_extend ho (pa_cons he pa_nil hst) hbase hfew hline hst hplain) hs).imp fun D σ H ⟨O, δ, E, w, ⟨ds, e, q⟩, k1, k2, k3, k4⟩ => by
    obtain ⟨l, vs, h, a, b, c, r⟩ := w.own e
    refine ⟨_, h, .inl ⟨rfl, _, SqL.of c⟩, O, δ, _, w, q, fun es ws p H1 q1 s1 hp r1 => ?_⟩
    have hl : H1 l = some (.lst vs) := s1 _ _ c
    have np : l ≠ p := fun z => by rw [z, hp] at hl; cases hl
    have S2 : Same H1 (upd H1 p (.lst ws)) := Same.new hp
    refine ⟨l, p, vs, ws, rfl, rfl, by rw [upd_ne np]; exact hl, upd_same, by rw [r.length, r1.length]; exact q1.1, ?_⟩
    exact k1 _ _ _ _ q1.2 (((w.mono s1).mono S2).putO (vs := vs) e h (((r.mono s1).mono S2).append (r1.mono S2))) ⟨fun b' o' z n => by rw [upd_ne (fun y => n (by rw [y]; exact a))]; exact S2 _ _ (s1 _ _ z), fun _ _ n => n⟩
end
/-! max of a list -/
theorem valsI : ∀ {ns : List Int} {us : List Value}, Vals (ns.map V.int) us → IntsAre us ns
  | [], _, r => by rw [List.map_nil] at r; cases r; exact .nil
  | n :: ns, _, r => by
    rw [List.map_cons] at r
    cases r with
    | cons r1 r2 => obtain ⟨t, rfl⟩ := r1; exact .cons n t (valsI r2)
theorem call_maxL {X : Cx} (hc : X.calm = true) : CallR X (.builtin "max") (fun xs H Q => ∃ (p : Addr) (ns : List Int), xs = [.ref p] ∧ SqL X.K H p (ns.map V.int) ∧ ns ≠ [] ∧ ∀ M, M ∈ ns → (∀ a ∈ ns, a ≤ M) → Q (.int M) H) := by
  intro pins s σ H xs us Q I r h
  obtain ⟨p, ns, rfl, hq, hne, q⟩ := h
  obtain ⟨u, rfl, rx⟩ := vals1 r
  cases rx
  obtain ⟨its, rv, pl, hz⟩ := I.list hq
  have hi := valsI rv
  obtain ⟨zs, e⟩ := hi.allInts.items
  have hns : ns = zs.toList.map (·.1) := by rw [← hi.numsOf, ← nums_intItems, ← e]
  have h0 : 0 < zs.size := by
    rcases Nat.eq_zero_or_pos zs.size with z | z
    · exact absurd (by rw [hns]; simp [Array.size_eq_zero_iff.mp z]) hne
    · exact z
  have hl := pl.isList
  rw [e] at hl
  refine max_intList (I.ok.hd hc) hl h0 fun v h' tk hv hk => ?_
  obtain ⟨t, rfl⟩ := intItems_at hv
  obtain ⟨h1, h2⟩ := argBest_gt (numAt zs) (zs.size - 1)
  refine ⟨.int _, H, I.kept (t' := tk) hk, ⟨t, rfl⟩, q _ ?_ fun a ha => ?_⟩
  · rw [hns, numAt_eq]; exact getD_mem (by rw [List.length_map, Array.length_toList]; omega)
  · rw [hns] at ha
    obtain ⟨j, hj, rfl⟩ := mem_getD ha
    rw [List.length_map, Array.length_toList] at hj
    rw [← numAt_eq]; exact h2 j (by omega)
theorem Dts.intsL {K : PySem.W.Frag} {H : Hp} {O : Ex} : ∀ {ns : List Int} {vs : List V}, Dts K H O vs (ns.map PyData.int) → vs = ns.map V.int
  | [], _, r => by rw [List.map_nil] at r; cases r; rfl
  | b :: bs, _, r => by
    rw [List.map_cons] at r
    cases r with
    | cons h r => cases h; rw [List.map_cons, Dts.intsL r]
def dMaxL : List PyData → (PyData → Prop) → Prop := fun ds Q => ∃ ns : List Int, ds = [.list (ns.map .int)] ∧ ns ≠ [] ∧ ∀ M, M ∈ ns → (∀ a ∈ ns, a ≤ M) → Q (.int M)
theorem cd_maxL {K : PySem.W.Frag} : CallD K (fun xs H Q => ∃ (p : Addr) (ns : List Int), xs = [.ref p] ∧ SqL K H p (ns.map V.int) ∧ ns ≠ [] ∧ ∀ M, M ∈ ns → (∀ a ∈ ns, a ≤ M) → Q (.int M) H) dMaxL := fun H O xs ds Qd R tr hs ⟨ns, e, hne, q⟩ k => by
  subst e
  cases hs with
  | cons h r =>
    cases r
    obtain ⟨a, vs, rfl, h1, d1⟩ := h.lst
    cases d1.intsL
    exact ⟨a, ns, rfl, h1, hne, fun M m1 m2 => k _ _ H (q M m1 m2) (Same.refl _) (.int _)⟩
/-! for x in d -/
def Itd (o : Obj) (a : Addr) (kv : List (Key × V)) : It := ⟨fun i H => i < kv.length ∧ H a = some (.frz o (.dK kv)), fun i H x H' => H' = H ∧ ∃ p, kv[i]? = some p ∧ x = kV p.1, fun i H => kv.length ≤ i ∧ H a = some (.frz o (.dK kv))⟩
theorem KV.len {kv : List (Key × V)} {vs : List (Key × Value)} (r : KV kv vs) : vs.length = kv.length := r.length.symm
def iDK (tl : TE) : TI := fun σ H R => tl σ H fun x H1 => ∃ a kv, x = .ref a ∧ H1 a = some (.dK kv) ∧ ∀ o, R (Itd o a kv) (upd H1 a (.frz o (.dK kv)))
theorem SrcP.dk {o : Obj} {a : Addr} {kv : List (Key × V)} : SrcP (Itd o a kv) (fun H => H a = some (.frz o (.dK kv))) (kv.map fun p => kV p.1) := by
  refine ⟨fun i H' s hi => ⟨by simpa using hi, s⟩, fun i H' x H'' s hi y => ⟨y.1, ?_⟩, fun i H' s hi => ⟨by simpa using hi, s⟩⟩
  obtain ⟨_, p, hp, rfl⟩ := y
  simp [hp]
section
variable {X : Cx} {H0 : Hp} {O0 : Ex}
def dForDK (i : Nat) (dg : DG) (tb : DS) : DS := fun E δ => ∃ kd, δ[i]? = some (some (.k kd)) ∧ forI dg tb E (kd.map fun p => keyD p.1) (δ.set i none)
end
/-! {k: v, ..} -/
def dPairs : List (DT × DT) → Dl → (List (PyData × PyData) → Prop) → Prop
  | [], _, Q => Q []
  | (a, b) :: r, δ, Q => a δ fun x => b δ fun y => dPairs r δ fun ps => Q ((x, y) :: ps)
inductive PDt (K : PySem.W.Frag) (H : Hp) (O : Ex) : List (V × V) → List (PyData × PyData) → Prop
  | nil : PDt K H O [] []
  | cons {a b : V} {x y : PyData} {r s} : Dt K H O a x → Dt K H O b y → PDt K H O r s → PDt K H O ((a, b) :: r) ((x, y) :: s)
theorem pairs_up {K : PySem.W.Frag} {H0 : Hp} {O0 O : Ex} {σ : St} {δ : Dl} : ∀ (trs : List (DT × DT)) {H : Hp} {Qd : List (PyData × PyData) → Prop} {R : List (V × V) → Hp → Prop}, Wd K H0 O0 H O σ δ → dPairs trs δ Qd → (∀ ds vs H', Qd ds → Same H H' → PDt K H' O vs ds → R vs H') → tPairs (trs.map fun p => (up K H0 O0 p.1, up K H0 O0 p.2)) σ H R
  | [], H, Qd, R, w, q, k => k [] [] H q (Same.refl _) .nil
  | (a, b) :: r, H, Qd, R, w, q, k => by
    refine ⟨O, δ, _, w, q, fun x v H1 q1 s1 r1 => ⟨O, δ, _, w.mono s1, q1, fun y u H2 q2 s2 r2 => ?_⟩⟩
    exact pairs_up r ((w.mono s1).mono s2) q2 fun ds vs H3 q3 s3 r3 => k _ _ H3 q3 ((s1.trans s2).trans s3) (.cons (r1.mono (s2.trans s3)) (r2.mono s3) r3)
theorem Dt.free {K : PySem.W.Frag} {H H' : Hp} {O O' : Ex} {v : V} {d : PyData} (h : Dt K H O v d) (s : scalD d = true) : Dt K H' O' v d := by
  cases h <;> first | exact .non | exact .bl _ | exact .int _ | exact .str _ | cases s
theorem PDt.kd {K : PySem.W.Frag} {H H' : Hp} {O : Ex} : ∀ {kd : List (Key × PyData)} {ps : List (V × V)}, PDt K H O ps (kd.map fun p => (keyD p.1, p.2)) → (∀ p ∈ kd, scalD p.2 = true) → ∃ kv : List (Key × V), ps = kv.map (fun p => (kV p.1, p.2)) ∧ KDt K H' O kv kd
  | [], _, h, _ => by cases h; exact ⟨[], rfl, .nil⟩
  | p :: kd, _, h, sc => by
    cases h with
    | cons a b r =>
      obtain ⟨kv, e, k⟩ := PDt.kd r fun q hq => sc q (List.mem_cons_of_mem _ hq)
      have := a.key
      exact ⟨(p.1, _) :: kv, by rw [e, this]; rfl, .cons (b.free (sc p List.mem_cons_self)) k⟩
theorem KDt.merge {K : PySem.W.Frag} {H : Hp} {O : Ex} {more : List (Key × V)} {md : List (Key × PyData)} (h : KDt K H O more md) : ∀ {kv : List (Key × V)} {kd : List (Key × PyData)}, KDt K H O kv kd → KDt K H O (mergeK kv more) (md.foldl (fun a p => putD a p.1 p.2) kd) := by
  induction h with
  | nil => intro kv kd r; exact r
  | cons a _ ih => intro kv kd r; exact ih (r.put _ a)
section
variable {X : Cx} {H0 : Hp} {O0 : Ex}
def dDisp (trs : List (DT × DT)) : DKy := fun δ Q => dPairs trs δ fun ps => ∃ kd : List (Key × PyData), ps = kd.map (fun p => (keyD p.1, p.2)) ∧ kd.length ≤ 15 ∧ (∀ p ∈ kd, scalD p.2 = true) ∧ Q (kd.foldl (fun a p => putD a p.1 p.2) [])
def KPs (X : Cx) (H0 : Hp) (O0 : Ex) (pos : Pos) (keys : List (Option Expr)) (values : List Expr) (trs : List (DT × DT)) : Prop := PPs X pos keys values (trs.map fun p => (up X.K H0 O0 p.1, up X.K H0 O0 p.2))
theorem kps_nil {pos : Pos} : KPs X H0 O0 pos [] [] [] := pps_nil
theorem kps_cons {pos : Pos} {k v : Expr} {ks : List (Option Expr)} {vs : List Expr} {tk tv : DT} {trs : List (DT × DT)} (hk : DE X H0 O0 k tk) (hv : DE X H0 O0 v tv) (hr : KPs X H0 O0 pos ks vs trs) : KPs X H0 O0 pos (some k :: ks) (v :: vs) ((tk, tv) :: trs) := pps_cons hk hv hr
theorem ke_disp {pos : Pos} {keys : List (Option Expr)} {values : List Expr} {trs : List (DT × DT)} (h : KPs X H0 O0 pos keys values trs) (hall : keys.all (·.isSome) = true := by rfl) (hl : keys.length = values.length := by rfl) (h0 : keys ≠ [] := by exact List.cons_ne_nil _ _) (h15 : keys.length ≤ 15 := by exact Nat.le_of_ble_eq_true rfl) : KE X H0 O0 (.Dict keys values pos) (dDisp trs) :=
  (pe_disp h hall hl h0 h15).imp fun σ H Q ⟨O, δ, Qd, w, q, k⟩ => fun p hp => by
    refine pairs_up trs (w.mono (Same.new hp)) q fun ds vs H2 ⟨kd, e, n, sc, q2⟩ s2 r2 => ?_
    subst e
    have hp2 : H2 p = some (.dK []) := s2 _ _ upd_same
    obtain ⟨kv, e, r⟩ := PDt.kd (H' := fun b => if b = p then none else H2 b) r2 sc
    refine ⟨hp2, kv, e, by rw [r.length]; exact n, ?_⟩
    have eu : upd H2 p (.dK (mergeK [] kv)) = upd (fun b => if b = p then none else H2 b) p (.dK (mergeK [] kv)) := by
      funext b; unfold upd; split
      · rfl
      · rename_i hb; exact (if_neg hb).symm
    rw [eu]
    refine k _ _ p _ q2 (fun b o z => ?_) (if_pos rfl) (r.merge .nil)
    have : b ≠ p := fun y => by rw [y, hp] at z; cases z
    show (if b = p then none else H2 b) = some o
    rw [if_neg this]
    exact s2 _ _ (by rw [upd_ne this]; exact z)
end
end L2

namespace L2
open PySem PySem.Spec PyProof.Rows PySem.W PySem.Calls
/-! a, b, c = x, y, z -/
section
variable {X : Cx} {H0 : Hp} {O0 : Ex}
def tPar3 (i j k : Nat) (ta : TA) : TS := fun D σ H => ta σ H fun vs H1 => ∃ v w z, vs = [v, w, z] ∧ D.nx (((σ.set i (some v)).set j (some w)).set k (some z)) H1
def dPar3 (i j k : Nat) (t : DA) : DS := fun E δ => t δ fun ds => ∃ x y z, ds = [x, y, z] ∧ E.nx (((δ.set i (some (.v x))).set j (some (.v y))).set k (some (.v z)))
theorem fu_compTI {N' : List Str} {k : Nat} {fr : List Nat} {scope : Scope} {iter elt tg : Expr} {ifs : List Expr} {t te : DT} {tc : DB} {g : TG} {dg : DG} {pos : Pos} (hc : X.calm = true) (S : CompScope X.env.scope X.N N' k fr scope) (hi : DF X H0 O0 iter t) (gd : GD X.K g dg) (hk : KeepG g k) (hfr : fr.Nodup)
    (hg : ∀ fp C s H, PG (compCx X scope N' fp C s H) tg g) (hf : ∀ fp C s H, PIfs (compCx X scope N' fp C s H) ifs (upT X.K H0 O0 tc)) (he : ∀ fp C s H, PE (compCx X scope N' fp C s H) elt (up X.K H0 O0 te))
    (hs : ∀ x, foldedSetIterable iter X.env x = pure x := by intro _; rfl) : PU X (.ListComp elt [⟨tg, iter, ifs, 0⟩] scope pos) (upF X.K H0 O0 (dCompTI t dg tc te k fr)) :=
  (pu_comp hc S (pi_tup hi) hg hf he hs).imp fun σ H Q ⟨O, δ, Qd, w, q, kk⟩ => ⟨O, δ, _, w, q, fun d v H1 ⟨xs, e, hz, q1⟩ s1 r1 => by
    subst e
    obtain ⟨a, vs, rfl, hq, rr⟩ := r1.tup
    refine ⟨a, rfl, ⟨_, hq⟩, fun D hD => comp_stepI (SrcP.tup hq) gd hfr (fun v _ H' R h => hk fr σ v H' R h) (fun _ _ _ z => z) (fun _ _ _ z => z) (fun D H' hD s' o e => s' _ _ e (ne_of_none e hD)) rr (w.mono s1) (by rw [rr.length]; exact hz) q1 (fun ds us p H' z s' hp r' => kk ds us p H' z (s1.trans s') hp r') D hD⟩⟩
end
end L2

namespace L2
open PySem PySem.Spec PyProof.Rows PySem.W PySem.Calls
/-! list.sort as a tree of questions: sorted, whatever the strict order of unlike keys -/
/-- the questions are answered by lt, while I holds of the state -/
structure Ans (n : Nat) (lt : Nat → Nat → Bool) (I : Shared → Prop) (cmp : Nat → Nat → (Bool → Shared → Prop) → Shared → Prop) : Prop where
  as : ∀ i j C s, i < n → j < n → i ≠ j → I s → (∀ s', I s' → C (lt i j) s') → cmp i j C s
structure StrictT (n : Nat) (lt : Nat → Nat → Bool) : Prop where
  tot : ∀ i j, i < n → j < n → i ≠ j → lt i j = !lt j i
  tr : ∀ i j k, i < n → j < n → k < n → lt i j = true → lt j k = true → lt i k = true
/-- an order of the places below n -/
structure Places (n : Nat) (p : Array Nat) : Prop where
  perm : p.toList.Perm (List.range n)
theorem Places.size {n : Nat} {p : Array Nat} (h : Places n p) : p.size = n := by rw [← Array.length_toList, h.perm.length_eq, List.length_range]
theorem Places.lt {n : Nat} {p : Array Nat} (h : Places n p) {k : Nat} (hk : k < n) : p.getD k 0 < n := by
  have hs := h.size
  have e : p.getD k 0 = p[k]'(by omega) := by simp [Array.getD, show k < p.size by omega]
  rw [e]
  have := h.perm.mem_iff.mp (Array.mem_toList_iff.mpr (Array.getElem_mem (show k < p.size by omega)))
  simpa using this
theorem Places.ne {n : Nat} {p : Array Nat} (h : Places n p) {i j : Nat} (hi : i < n) (hj : j < n) (hij : i ≠ j) : p.getD i 0 ≠ p.getD j 0 := by
  have hs := h.size
  have nd : p.toList.Nodup := h.perm.nodup_iff.mpr List.nodup_range
  have ei : p.getD i 0 = p.toList[i]'(by simp; omega) := by simp [Array.getD, show i < p.size by omega]
  have ej : p.getD j 0 = p.toList[j]'(by simp; omega) := by simp [Array.getD, show j < p.size by omega]
  rw [ei, ej]
  intro e
  exact hij ((List.getElem_inj nd).mp e)
theorem Places.bubble {n : Nat} {p : Array Nat} (h : Places n p) (a d : Nat) : Places n (PyProof.Rows.bubble p a d) := ⟨(Array.perm_iff_toList_perm.mp (bubble_perm p a d)).trans h.perm⟩
theorem Places.rev {n : Nat} {p : Array Nat} (h : Places n p) (i j : Nat) : Places n (kas_rev p i j) := ⟨(Array.perm_iff_toList_perm.mp (mirror_perm p i j _)).trans h.perm⟩
theorem places0 (n : Nat) : Places n (List.toArray (List.range n)) := ⟨by simp⟩
/-- the first k places rise -/
def Up (lt : Nat → Nat → Bool) (p : Array Nat) (k : Nat) : Prop := ∀ i j, i < j → j < k → lt (p.getD i 0) (p.getD j 0) = true
section
variable {n : Nat} {lt : Nat → Nat → Bool} {I : Shared → Prop} {cmp : Nat → Nat → (Bool → Shared → Prop) → Shared → Prop}
theorem Up.snoc (T : StrictT n lt) {p : Array Nat} (hp : Places n p) {k : Nat} (hk : k < n) (h : Up lt p k) (h0 : 0 < k) (hl : lt (p.getD (k - 1) 0) (p.getD k 0) = true) : Up lt p (k + 1) := by
  intro i j hij hj
  rcases Nat.lt_or_ge j k with z | z
  · exact h i j hij z
  · have : j = k := by omega
    subst this
    rcases Nat.lt_or_ge i (j - 1) with w | w
    · exact T.tr _ _ _ (hp.lt (by omega)) (hp.lt (by omega)) (hp.lt hk) (h i (j - 1) w (by omega)) hl
    · have : i = j - 1 := by omega
      subst this; exact hl
theorem asc_ok (A : Ans n lt I cmp) (T : StrictT n lt) {p : Array Nat} (hp : Places n p) {Q : Nat → Shared → Prop} : ∀ (f m : Nat) (s : Shared), 1 ≤ m → m + f = n → Up lt p m → I s →
    (∀ k s', I s' → m ≤ k → k ≤ n → Up lt p k → (k < n → lt (p.getD k 0) (p.getD (k - 1) 0) = true) → Q k s') → (kas_asc p f m).kasWp cmp Q s
  | 0, m, s, h1, hf, hu, hI, q => q m s hI (Nat.le_refl _) (by omega) hu (fun z => by omega)
  | f + 1, m, s, h1, hf, hu, hI, q => by
    have hm : m < n := by omega
    refine A.as _ _ _ s (hp.lt hm) (hp.lt (by omega)) (hp.ne hm (by omega) (by omega)) hI fun s' hI' => ?_
    cases hc : lt (p.getD m 0) (p.getD (m - 1) 0) with
    | true =>
      dsimp only; rw [if_pos rfl]
      exact q m s' hI' (Nat.le_refl _) (by omega) hu (fun _ => hc)
    | false =>
      dsimp only; rw [if_neg (by simp)]
      have hl : lt (p.getD (m - 1) 0) (p.getD m 0) = true := by rw [T.tot _ _ (hp.lt (by omega)) (hp.lt hm) (hp.ne (by omega) hm (by omega)), hc]; rfl
      exact asc_ok A T hp f (m + 1) s' (by omega) (by omega) (hu.snoc T hp hm (by omega) hl) hI' fun k s2 a b c d e => q k s2 a (by omega) c d e
/-- the first k places fall -/
def Dn (lt : Nat → Nat → Bool) (p : Array Nat) (k : Nat) : Prop := ∀ i j, i < j → j < k → lt (p.getD j 0) (p.getD i 0) = true
theorem Dn.snoc (T : StrictT n lt) {p : Array Nat} (hp : Places n p) {k : Nat} (hk : k < n) (h : Dn lt p k) (h0 : 0 < k) (hl : lt (p.getD k 0) (p.getD (k - 1) 0) = true) : Dn lt p (k + 1) := by
  intro i j hij hj
  rcases Nat.lt_or_ge j k with z | z
  · exact h i j hij z
  · have : j = k := by omega
    subst this
    rcases Nat.lt_or_ge i (j - 1) with w | w
    · exact T.tr _ _ _ (hp.lt hk) (hp.lt (by omega)) (hp.lt (by omega)) hl (h i (j - 1) w (by omega))
    · have : i = j - 1 := by omega
      subst this; exact hl
theorem desc_ok (A : Ans n lt I cmp) (T : StrictT n lt) {p : Array Nat} (hp : Places n p) {Q : Array Nat × Nat × Nat → Shared → Prop} : ∀ (f m : Nat) (s : Shared), 1 ≤ m → m + f = n → Dn lt p m → I s →
    (∀ k s', I s' → m ≤ k → k ≤ n → Dn lt p k → Q (p, k, 0) s') → (kas_desc f p m 0).kasWp cmp Q s
  | 0, m, s, h1, hf, hu, hI, q => q m s hI (Nat.le_refl _) (by omega) hu
  | f + 1, m, s, h1, hf, hu, hI, q => by
    have hm : m < n := by omega
    refine A.as _ _ _ s (hp.lt hm) (hp.lt (by omega)) (hp.ne hm (by omega) (by omega)) hI fun s' hI' => ?_
    cases hc : lt (p.getD m 0) (p.getD (m - 1) 0) with
    | true =>
      dsimp only; rw [if_pos rfl, if_neg (by simp)]
      exact desc_ok A T hp f (m + 1) s' (by omega) (by omega) (hu.snoc T hp hm (by omega) hc) hI' fun k s2 a b c d => q k s2 a (by omega) c d
    | false =>
      dsimp only; rw [if_neg (by simp)]
      refine A.as _ _ _ s' (hp.lt (by omega)) (hp.lt hm) (hp.ne (by omega) hm (by omega)) hI' fun s2 hI2 => ?_
      have hl : lt (p.getD (m - 1) 0) (p.getD m 0) = true := by rw [T.tot _ _ (hp.lt (by omega)) (hp.lt hm) (hp.ne (by omega) hm (by omega)), hc]; rfl
      rw [hl]; dsimp only; rw [if_pos rfl]
      exact q m s2 hI2 (Nat.le_refl _) (by omega) hu
theorem getD_rev {p : Array Nat} {j k : Nat} (hj : j ≤ p.size) : (kas_rev p 0 j).getD k 0 = if k < j then p.getD (j - 1 - k) 0 else p.getD k 0 := by
  have := getElem?_mirror_all (xs := p) (i := 0) (j := j) hj k
  unfold kas_rev
  rw [Array.getD_eq_getD_getElem?, this]
  by_cases h : k < j
  · simp [h, Array.getD_eq_getD_getElem?]
  · simp [h, Array.getD_eq_getD_getElem?]
theorem Dn.rev {p : Array Nat} (hp : Places n p) {k : Nat} (hk : k ≤ n) (h : Dn lt p k) : Up lt (kas_rev p 0 k) k := by
  intro i j hij hj
  have hs := hp.size
  rw [getD_rev (by omega), getD_rev (by omega), if_pos (by omega), if_pos hj]
  exact h _ _ (by omega) (by omega)
theorem count_ok (A : Ans n lt I cmp) (T : StrictT n lt) (h2 : 2 ≤ n) {p : Array Nat} (hp : Places n p) {Q : Nat × Array Nat → Shared → Prop} {s : Shared} (hI : I s)
    (q : ∀ k p' s', I s' → 1 ≤ k → k ≤ n → Places n p' → Up lt p' k → Q (k, p') s') : (kas_count n p).kasWp cmp Q s := by
  unfold kas_count
  rw [KasT.kasWp_bind]
  refine asc_ok A T hp (n - 1) 1 s (Nat.le_refl _) (by omega) (fun i j a b => by omega) hI fun m s1 hI1 m1 m2 hu hs => ?_
  by_cases hm : m = n
  · subst hm
    rw [if_pos (by simp)]
    exact q m p s1 hI1 m1 (Nat.le_refl _) hp hu
  · rw [if_neg (by simpa using hm)]
    by_cases hm1 : m > 1
    · rw [if_pos hm1]
      refine A.as _ _ _ s1 (hp.lt (by omega)) (hp.lt (by omega)) (hp.ne (by omega) (by omega) (by omega)) hI1 fun s2 hI2 => ?_
      rw [hu 0 (m - 1) (by omega) (by omega)]; dsimp only; rw [if_pos rfl]
      exact q m p s2 hI2 m1 (by omega) hp hu
    · rw [if_neg hm1]
      have : m = 1 := by omega
      subst this
      have h10 := hs (by omega)
      unfold kas_descPart
      rw [KasT.kasWp_bind]
      refine desc_ok A T hp (n - (1 + 1)) (1 + 1) s1 (by omega) (by omega) (fun i j a b => ?_) hI1 fun k s2 hI2 k1 k2 hd => ?_
      · have : i = 0 := by omega
        have : j = 1 := by omega
        subst_vars
        exact h10
      · rw [if_neg (by simp)]
        unfold kas_tail3
        rw [KasT.kasWp_bind]
        have hp' := hp.rev 0 k
        refine asc_ok A T hp' (n - k) k s2 (by omega) (by omega) (hd.rev hp k2) hI2 fun m s3 hI3 a b c d => ?_
        exact q m _ s3 hI3 (by omega) b hp' c
theorem place_ok (A : Ans n lt I cmp) (T : StrictT n lt) {p : Array Nat} (hp : Places n p) {k : Nat} (hk : k < n) (hu : Up lt p k) {Q : Nat → Shared → Prop} : ∀ (f l r : Nat) (s : Shared), r - l ≤ f → l ≤ r → r ≤ k → I s →
    (∀ i, i < l → lt (p.getD i 0) (p.getD k 0) = true) → (∀ i, r ≤ i → i < k → lt (p.getD k 0) (p.getD i 0) = true) →
    (∀ l s', I s' → l ≤ k → (∀ i, i < l → lt (p.getD i 0) (p.getD k 0) = true) → (∀ i, l ≤ i → i < k → lt (p.getD k 0) (p.getD i 0) = true) → Q l s') → (kas_place p k f l r).kasWp cmp Q s
  | 0, l, r, s, hf, hlr, hrk, hI, h1, h2, q => q l s hI (by omega) h1 (fun i a b => h2 i (by omega) b)
  | f + 1, l, r, s, hf, hlr, hrk, hI, h1, h2, q => by
    unfold kas_place
    by_cases hge : l ≥ r
    · rw [if_pos hge]
      exact q l s hI (by omega) h1 (fun i a b => h2 i (by omega) b)
    · rw [if_neg hge]
      have hm : (l + r) / 2 < k := by omega
      refine A.as _ _ _ s (hp.lt hk) (hp.lt (by omega)) (hp.ne hk (by omega) (by omega)) hI fun s' hI' => ?_
      cases hc : lt (p.getD k 0) (p.getD ((l + r) / 2) 0) with
      | true =>
        dsimp only; rw [if_pos rfl]
        refine place_ok A T hp hk hu f l ((l + r) / 2) s' (by omega) (by omega) (by omega) hI' h1 (fun i a b => ?_) q
        rcases Nat.lt_or_ge ((l + r) / 2) i with z | z
        · exact T.tr _ _ _ (hp.lt hk) (hp.lt (by omega)) (hp.lt (by omega)) hc (hu _ _ z b)
        · have : i = (l + r) / 2 := by omega
          rw [this]; exact hc
      | false =>
        dsimp only; rw [if_neg (by simp)]
        have hl : lt (p.getD ((l + r) / 2) 0) (p.getD k 0) = true := by rw [T.tot _ _ (hp.lt (by omega)) (hp.lt hk) (hp.ne (by omega) hk (by omega)), hc]; rfl
        refine place_ok A T hp hk hu f ((l + r) / 2 + 1) r s' (by omega) (by omega) hrk hI' (fun i a => ?_) h2 q
        rcases Nat.lt_or_ge i ((l + r) / 2) with z | z
        · exact T.tr _ _ _ (hp.lt (by omega)) (hp.lt (by omega)) (hp.lt hk) (hu _ _ z hm) hl
        · have : i = (l + r) / 2 := by omega
          rw [this]; exact hl
theorem getD_bubble {p : Array Nat} {k d i : Nat} (hk : k < p.size) (hd : d ≤ k) : (PyProof.Rows.bubble p k d).getD i 0 = if i = k - d then p.getD k 0 else if k - d < i ∧ i ≤ k then p.getD (i - 1) 0 else p.getD i 0 := by
  rw [Array.getD_eq_getD_getElem?, getElem?_bubble hk d hd i]
  by_cases h1 : i = k - d
  · rw [if_pos h1, if_pos h1, Array.getD_eq_getD_getElem?]
  · rw [if_neg h1, if_neg h1]
    by_cases h2 : k - d < i ∧ i ≤ k
    · rw [if_pos h2, if_pos h2, Array.getD_eq_getD_getElem?]
    · rw [if_neg h2, if_neg h2, Array.getD_eq_getD_getElem?]
theorem Up.ins (T : StrictT n lt) {p : Array Nat} (hp : Places n p) {k l : Nat} (hk : k < n) (hu : Up lt p k) (hl : l ≤ k) (h1 : ∀ i, i < l → lt (p.getD i 0) (p.getD k 0) = true) (h2 : ∀ i, l ≤ i → i < k → lt (p.getD k 0) (p.getD i 0) = true) : Up lt (PyProof.Rows.bubble p k (k - l)) (k + 1) := by
  have hs := hp.size
  intro i j hij hj
  rw [getD_bubble (by omega) (by omega), getD_bubble (by omega) (by omega)]
  have e : k - (k - l) = l := by omega
  rw [e]
  by_cases hi : i = l
  · rw [if_pos hi, if_neg (by omega), if_pos (by omega)]
    exact h2 _ (by omega) (by omega)
  · rw [if_neg hi]
    by_cases hi2 : l < i ∧ i ≤ k
    · rw [if_pos hi2, if_neg (by omega), if_pos (by omega)]
      exact hu _ _ (by omega) (by omega)
    · rw [if_neg hi2]
      by_cases hj1 : j = l
      · rw [if_pos hj1]; exact h1 _ (by omega)
      · rw [if_neg hj1]
        by_cases hj2 : l < j ∧ j ≤ k
        · rw [if_pos hj2]; exact hu _ _ (by omega) (by omega)
        · rw [if_neg hj2]; exact hu _ _ hij (by omega)
theorem bin_ok (A : Ans n lt I cmp) (T : StrictT n lt) {Q : Array Nat → Shared → Prop} : ∀ (f : Nat) (p : Array Nat) (k : Nat) (s : Shared), k + f = n → Places n p → Up lt p k → I s → (∀ p' s', I s' → Places n p' → Up lt p' n → Q p' s') → (kas_bin f p k).kasWp cmp Q s
  | 0, p, k, s, hf, hp, hu, hI, q => q p s hI hp (by rw [show n = k by omega]; exact hu)
  | f + 1, p, k, s, hf, hp, hu, hI, q => by
    unfold kas_bin
    rw [KasT.kasWp_bind]
    have hk : k < n := by omega
    refine place_ok A T hp hk hu k 0 k s (by omega) (by omega) (Nat.le_refl _) hI (fun i z => by omega) (fun i a b => by omega) fun l s' hI' hl h1 h2 => ?_
    exact bin_ok A T f _ (k + 1) s' (by omega) (hp.bubble _ _) (hu.ins T hp hk hl h1 h2) hI' q
theorem sort_ok (A : Ans n lt I cmp) (T : StrictT n lt) (h2 : 2 ≤ n) {Q : Array Nat → Shared → Prop} {s : Shared} (hI : I s) (q : ∀ p s', I s' → Places n p → Up lt p n → Q p s') : (kas_sort n).kasWp cmp Q s := by
  unfold kas_sort
  rw [KasT.kasWp_bind]
  refine count_ok A T h2 (places0 n) hI fun k p s1 hI1 k1 k2 hp hu => ?_
  dsimp only
  by_cases hk : k < n
  · rw [if_pos hk, show max k 1 = k by omega]
    exact bin_ok A T (n - k) p k s1 (by omega) hp hu hI1 q
  · rw [if_neg hk]
    exact q p s1 hI1 hp (by rw [show n = k by omega]; exact hu)
end
end L2

namespace L2
open PySem PySem.Spec PyProof.Rows PySem.W PySem.Calls
/-! pairs of a whole number and a text, as keys -/
def ltP (p q : Int × Str) : Bool := decide (p.1 < q.1) || (decide (p.1 = q.1) && decide (p.2.cps.toList < q.2.cps.toList))
/-- a tuple of a whole number and a text -/
def IsPr (h : Heap) (v : Value) (p : Int × Str) : Prop := ∃ a o n t u, v = .ref a ∧ h.get? a = some o ∧ o.cls = .type "tuple" ∧ o.data = .seq #[.int p.1 t, .str p.2 u] n
section
variable {P : Program} {w : World} {A : Around} {E : Value → Shared → Prop} {s : Shared}
theorem lt_pair {v u : Value} {p q : Int × Str} {Q : Bool → Shared → Prop} (hv : IsPr s.heap v p) (hu : IsPr s.heap u q) (h : Q (ltP p q) s) : wpAny (model P w) A (keyLt' (tuples' true) v u) Q E s := by
  obtain ⟨a, oa, na, t1, t2, rfl, ha, _, da⟩ := hv
  obtain ⟨b, ob, nb, t3, t4, rfl, hb, _, db⟩ := hu
  refine kat_lt ha da hb db (kat_cons ((intKind P w).eqBool (intKind_is _ _ _ _) (intKind_is _ _ _ _) (kat_go (fun e1 => ?_) fun e1 => ?_)))
  · have e1 : p.1 = q.1 := by simpa using e1
    refine kat_yes (kat_cons ((PySem.strKind P w).eqBool (strKind_is _ _ _ _) (strKind_is _ _ _ _) (kat_go (fun e2 => ?_) fun e2 => ?_)))
    · have e2 : p.2 = q.2 := by simpa using e2
      refine kat_yes (kat_nil ?_)
      have : ltP p q = false := by unfold ltP; rw [e1, e2]; simp
      rw [this] at h
      simpa using h
    · have e2 : p.2 ≠ q.2 := by simpa using e2
      refine kat_no (kat_one _ _ ?_)
      have : ltP p q = decide (p.2.cps.toList < q.2.cps.toList) := by unfold ltP; simp [e1]
      rw [this] at h
      exact lt_str h
  · have e1 : p.1 ≠ q.1 := by simpa using e1
    refine kat_no ?_
    show wpAny _ _ (oneLt' true _ _) _ _ _
    refine oneLt_int ?_
    have : ltP p q = decide (p.1 < q.1) := by unfold ltP; simp [e1]
    rw [this] at h
    exact h
theorem ltP_strict {n : Nat} {kp : Nat → Int × Str} (hd : ∀ i j, i < n → j < n → kp i = kp j → i = j) : StrictT n fun i j => ltP (kp i) (kp j) := by
  have tl : ∀ a b : Str, a ≠ b → (decide (a.cps.toList < b.cps.toList)) = !decide (b.cps.toList < a.cps.toList) := fun a b h => by
    by_cases z : a.cps.toList < b.cps.toList
    · rw [decide_eq_true z, decide_eq_false (List.lt_asymm z)]; rfl
    · have z2 : b.cps.toList ≤ a.cps.toList := List.not_lt.mp z
      have : b.cps.toList < a.cps.toList := by
        rcases Classical.em (b.cps.toList < a.cps.toList) with y | y
        · exact y
        · exact absurd (str_ext (List.le_antisymm (List.not_lt.mp y) z2)) h
      rw [decide_eq_false z, decide_eq_true this]; rfl
  refine ⟨fun i j hi hj hij => ?_, fun i j k hi hj hk h1 h2 => ?_⟩
  · have hne : kp i ≠ kp j := fun e => hij (hd i j hi hj e)
    unfold ltP
    by_cases e : (kp i).1 = (kp j).1
    · have e2 : (kp i).2 ≠ (kp j).2 := fun z => hne (Prod.ext e z)
      simp only [e, Int.lt_irrefl, decide_false, Bool.false_or, decide_true, Bool.true_and]
      exact tl _ _ e2
    · have e' : (kp j).1 ≠ (kp i).1 := fun z => e z.symm
      simp only [e, e', decide_false, Bool.false_and, Bool.or_false]
      by_cases z : (kp i).1 < (kp j).1
      · rw [decide_eq_true z, decide_eq_false (by omega)]; rfl
      · rw [decide_eq_false z, decide_eq_true (by omega)]; rfl
  · unfold ltP at h1 h2 ⊢
    simp only [Bool.or_eq_true, Bool.and_eq_true, decide_eq_true_eq] at h1 h2 ⊢
    rcases h1 with h1 | ⟨h1, h1'⟩ <;> rcases h2 with h2 | ⟨h2, h2'⟩
    · left; omega
    · left; omega
    · left; omega
    · right; exact ⟨h1.trans h2, List.lt_trans h1' h2'⟩
theorem pairs_kind {ks : List Value} {kp : Nat → Int × Str} (hk : ∀ i v, ks[i]? = some v → IsPr s.heap v (kp i)) (h2 : 2 ≤ ks.length) {Q : SortKind → Shared → Prop} (h : Q (tuples' true) s) : wpAny (model P w) A (keyKind' ks.toArray) Q E s := by
  have key : ∀ (ks : List Value) (kp : Nat → Int × Str), (∀ i v, ks[i]? = some v → IsPr s.heap v (kp i)) → ∃ fs : List Value, KatTups s.heap ks fs ∧ fs.length = ks.length ∧ ∀ v ∈ fs, ∃ n t, v = Value.int n t := by
    intro ks
    induction ks with
    | nil => intro kp _; exact ⟨[], KatTups.nil, rfl, by simp⟩
    | cons v ks ih =>
      intro kp hk
      obtain ⟨fs, a, b, c⟩ := ih (fun i => kp (i + 1)) fun i v e => hk (i + 1) v (by simpa using e)
      obtain ⟨ad, o, n, t, u, rfl, h1, h2, h3⟩ := hk 0 v rfl
      refine ⟨.int (kp 0).1 t :: fs, KatTups.cons h1 h2 h3 rfl a, by simp [b], fun x hx => ?_⟩
      rcases List.mem_cons.mp hx with rfl | hx
      · exact ⟨_, _, rfl⟩
      · exact c x hx
  obtain ⟨fs, a, b, c⟩ := key ks kp hk
  refine kat_kind (T := .type "int") a (by omega) (fun v hv => ?_) (by decide) h
  obtain ⟨n, t, rfl⟩ := c v hv
  exact .now
theorem pairs_sort {n : Nat} {ks : List Value} {kp : Nat → Int × Str} (hn : ks.length = n) (h2 : 2 ≤ n) (hk : ∀ i v, ks[i]? = some v → IsPr s.heap v (kp i)) (hd : ∀ i j, i < n → j < n → kp i = kp j → i = j) {G : Array Nat → Shared → Prop}
    (q : ∀ p, Places n p → Up (fun i j => ltP (kp i) (kp j)) p n → G p s) : (kas_sort n).kasWp (kas_ask P w A (tuples' true) ks) G s := by
  refine sort_ok (lt := fun i j => ltP (kp i) (kp j)) (I := fun s' => s' = s) ⟨fun i j C s' hi hj hij e c => ?_⟩ (ltP_strict hd) h2 rfl fun p s' e hp hu => by subst e; exact q p hp hu
  subst e
  have ei : ks[i]? = some (ks.getD i .none) := by simp [show i < ks.length by omega]
  have ej : ks[j]? = some (ks.getD j .none) := by simp [show j < ks.length by omega]
  exact lt_pair (hk i _ ei) (hk j _ ej) (c _ rfl)
/-- what list.sort leaves: D holds out, all else but kS is kept -/
def SortEnd (kS D : Addr) (s : Shared) (out : List Value) (C : Shared → Prop) : Prop := ∀ h' c, h'.get? D = some (seqObj "list" out.toArray c) → (∀ b u, b ≠ kS → b ≠ D → s.heap.get? b = some u → h'.get? b = some u) → C { s with heap := h' }
theorem tail_ok {st : SortSt} {kS D : Addr} {ks out : List Value} {e e1 : Nat} {C : PySem.Fin → Shared → Prop} (hk : s.heap.get? kS = some (seqObj "list" ks.toArray e)) (hD : s.heap.get? D = some (seqObj "list" #[] e1)) (hne : kS ≠ D) (hf : failedOf st = none)
    (ho : (arrOf st).map (·.2) = out.toArray) (h64 : out.length < 64) (hk64 : ks.length < 64) (q : SortEnd kS D s out (C (.done (.ret .none)))) : wpAny (model P w) A (ksk_tail D false e1 (.ref kS) st) C E s := by
  have hsl : sizeLine = 16777216 := sizeLine_eq
  unfold ksk_tail
  rw [ho]
  refine wpAny_bind (listUpdate_at hk rfl (wpAny_bind (wpAny_letGo ?_)) (by rw [List.size_toArray]; omega) (Nat.zero_le _))
  have u1 := Heap.SameBut.update s.heap kS (Obj.mapSeq fun _ => (#[] : Array Value))
  have hD1 : (s.heap.update kS (Obj.mapSeq fun _ => (#[] : Array Value))).get? D = some (seqObj "list" #[] e1) := (u1.2 D (Ne.symm hne)).trans hD
  refine wpAny_bind (seqEpoch_at (s := { s with heap := s.heap.update kS (Obj.mapSeq fun _ => (#[] : Array Value)) }) hD1 rfl ?_)
  rw [if_neg (by simp)]
  refine wpAny_bind (listUpdate_at (s := { s with heap := s.heap.update kS (Obj.mapSeq fun _ => (#[] : Array Value)) }) hD1 rfl ?_ (Nat.zero_le _) (by show out.toArray.size ≤ _; rw [List.size_toArray]; omega))
  have u2 := Heap.SameBut.update (s.heap.update kS (Obj.mapSeq fun _ => (#[] : Array Value))) D (Obj.mapSeq fun _ => out.toArray)
  rw [hf]
  simp only [bne_self_eq_false, Bool.false_eq_true, if_false]
  exact wpAny_pure (q _ _ (get?_update_seq hD1 fun _ => out.toArray) fun b u n1 n2 z => (u2.2 b n2).trans ((u1.2 b n1).trans z))
theorem end_ok {kS D : Addr} {vs ks : List Value} {n e e1 : Nat} {kp : Nat → Int × Str} {C : PySem.Fin → Shared → Prop} (hv : vs.length = n) (hn : ks.length = n) (h64 : n < 64) (hks : s.heap.get? kS = some (seqObj "list" ks.toArray e)) (hD : s.heap.get? D = some (seqObj "list" #[] e1)) (hne : kS ≠ D)
    (hk : ∀ i v, ks[i]? = some v → IsPr s.heap v (kp i)) (hd : ∀ i j, i < n → j < n → kp i = kp j → i = j)
    (q : ∀ p, Places n p → Up (fun i j => ltP (kp i) (kp j)) p n → SortEnd kS D s (p.toList.map fun i => vs.getD i .none) (C (.done (.ret .none)))) : wpAny (model P w) A (ksk_end D false vs.toArray e1 (.ref kS) ks.toArray) C E s := by
  unfold ksk_end
  have hz : vs.toArray.size = n := by rw [List.size_toArray]; exact hv
  by_cases h2 : n < 2
  · simp only [Bool.false_eq_true, if_false, hz, h2, if_true]
    refine wpAny_bind (wpAny_pure (wpAny_bind (wpAny_pure ?_)))
    refine tail_ok hks hD hne rfl (out := vs) ?_ (by omega) (by omega) ?_
    · show (ks.toArray.zip vs.toArray).map (·.2) = vs.toArray
      apply Array.toList_inj.mp
      simp only [Array.toList_map, Array.toList_zip]
      rw [List.map_snd_zip (by omega)]
    · have := q _ (places0 n) (fun i j a b => by omega)
      have e : ((List.toArray (List.range n)).toList.map fun i => vs.getD i Value.none) = vs := by
        apply List.ext_getElem (by simp [hv])
        intro i a b
        simp at a b ⊢
        rw [List.getElem?_eq_getElem b]; rfl
      rw [e] at this
      exact this
  · simp only [Bool.false_eq_true, if_false, hz, h2]
    refine wpAny_bind (pairs_kind hk (by omega) ?_)
    have hl : ks.length = vs.length := by omega
    refine wpAny_bind (wpAny_mono (kat_run (κ := tuples' true) (E := fun _ _ => False) (Q := fun st' s' => s' = s ∧ ∃ p, Places n p ∧ Up (fun i j => ltP (kp i) (kp j)) p n ∧ arrOf st' = p.map (kas_item (ks.toArray.zip vs.toArray)) ∧ failedOf st' = none) (G := fun p s' => s' = s ∧ Places n p ∧ Up (fun i j => ltP (kp i) (kp j)) p n) hl (by omega) (by omega)
      (fun p st' s' a b c d => ⟨d.1, p, d.2.1, d.2.2, b, c⟩) ?_) (fun r s' hr => ?_) fun _ _ x => x.elim)
    · rw [hv]
      exact pairs_sort hn (by omega) hk hd fun p a b => ⟨rfl, a, b⟩
    · obtain ⟨rfl, p, p1, p2, p3, p4⟩ := hr
      refine tail_ok hks hD hne p4 (kat_snds hl p3) ?_ (by omega) (q p p1 p2)
      rw [List.length_map, Array.length_toList, p1.size]; exact h64
end
end L2

namespace L2
open PySem PySem.Spec PyProof.Rows PySem.W PySem.Calls
section
variable {X : Cx} {pins : List (Addr × Obj)} {σ : St} {H : Hp} {s : Shared}
/-- a record of no owner is tracked now; the records at ch may have changed -/
theorem Inv.track {o : HO} {D : Addr} {ch : List Addr} {t' : Nat} {h' : Heap} (I : Inv X pins σ H s) (hD : D ∈ ch) (f : ∀ b ∈ ch, FpOk X pins H b) (k : ∀ b u, b ∉ ch → s.heap.get? b = some u → h'.get? b = some u) (new : ObjOk X.prog X.w (upd H D o) h' D o) : Inv X pins σ (upd H D o) { s with heap := h', toks := t' } := by
  have nC : ∀ b u, H b = some u → b ∉ ch := fun b u e z => by rw [(f b z).1] at e; cases e
  have nD : ∀ b u, H b = some u → b ≠ D := fun b u e z => nC b u e (by rw [z]; exact hD)
  refine I.step (g' := s.gens) (d' := s.drawn) (ch := ch) (fun b hb => ?_) (fun b o _ _ hc e _ => k b o hc e) (fun b o _ _ hc e _ => ⟨o.slots, k b o hc e⟩) (fun b o hc _ n => by rw [upd_ne (fun z => hc (by rw [z]; exact hD))]; exact n)
    (fun b o hc e => ⟨o, k b o hc e⟩) (fun b xs e => by rw [upd_ne (nD _ _ e)]; exact e) (fun b u xs e => by rw [upd_ne (nD _ _ e)]; exact e) (fun b ps e => ⟨#[], by rw [upd_ne (nD _ _ e), e]; simp⟩) (fun m hm => hm.at' fun o e => k _ o (fun z => (f _ z).2.1 rfl) e) (fun b u e => ?_) I.bare
  · obtain ⟨f0, f1, f2, f3, f4, f5⟩ := f b hb; exact ⟨f3, f1, f4, f5⟩
  · by_cases hb : b = D
    · subst hb
      rw [upd_same] at e; cases e
      exact new
    · rw [upd_ne hb] at e
      refine (I.hok b u e).stay (fun c v hc q => k c v (fun z => ?_) q) (fun c q => by rw [upd_ne (nD _ _ q)]; exact q) (fun c xs q => by rw [upd_ne (nD _ _ q)]; exact q)
      rcases hc with r | r
      · subst r; exact nC _ _ e z
      · exact nC _ _ r z
theorem run_in {k : Nat} {f : Addr} {fd : FuncData} {ps : List Str} {sp : Sp} {v : V} {u : Value} {Q : VK} (Fk : FnOk X.prog X.w X.K X.mg X.base CX0 k f fd ps sp) (hr : Room k X.A.in1.in1) (hb : Binds X.K fd ps []) (I : Inv X pins σ H s) (r : RelV v u) (h : sp [v] H Q E0) :
    wpAny (model X.prog X.w) X.A.in1.in1 (call (.ref f) [u]) (EP X pins σ Q) (fun _ _ => False) s := by
  have r2 : Vals [v] [u] := .cons r .nil
  have hl : ([u] ++ []).length = ps.length := by
    have := Fk.len _ _ _ _ h
    simpa using this
  have hb2 := hb s [u] I.kIn hl
  rw [List.append_nil] at hb2
  refine wpAny_call (codeAny_mono (Fk.run X.A.in1.in1 X.stack s H ⟨[u], []⟩ [u] [v] Q E0 hr I.env0.in1.in1 hb2 r2 h) fun r s' hq => ?_)
  cases r with
  | error e => exact hq.elim
  | ok fl =>
    cases fl with
    | ret u => exact I.after hq
    | next => exact False.elim hq
    | brk => exact False.elim hq
    | cont => exact False.elim hq
/-- a record's static side -/
def Out (X : Cx) (pins : List (Addr × Obj)) (b : Addr) : Prop := b ≠ X.env.locals ∧ b ∉ X.fs ∧ (b ∈ X.ex ∨ X.s₀.heap.objs.size ≤ b) ∧ (∀ x c, X.env.cells.lookup x = some c → c ≠ b) ∧ ∀ p ∈ X.pn ++ pins, p.1 ≠ b
theorem Inv.out (I : Inv X pins σ H s) {b : Addr} (hb : s.heap.objs.size ≤ b) : Out X pins b := (I.fpOk (H' := H) hb (I.hok.fresh hb)).2
/-- the state while the keys are made: D emptied, kS holds the keys so far -/
structure Mid (X : Cx) (pins : List (Addr × Obj)) (σ : St) (H : Hp) (O : Ex) (kS D : Addr) (e1 : Nat) (kds : List PyData) (ks : List Value) (s : Shared) : Prop where
  ex : ∃ H' kvs e, Inv X (pins ++ [(kS, seqObj "list" ks.toArray e), (D, seqObj "list" #[] e1)]) σ H' s ∧ Same H H' ∧ Dts X.K H' O kvs kds ∧ Vals kvs ks
theorem Mid.push {O : Ex} {kS D : Addr} {e1 : Nat} {kds : List PyData} {ks : List Value} {H' : Hp} {kvs : List V} {e : Nat} {h' : Heap} {kv : V} {kd : PyData} {k : Value} (oS : Out X pins kS) (oD : Out X pins D) (hne : kS ≠ D)
    (I : Inv X (pins ++ [(kS, seqObj "list" ks.toArray e), (D, seqObj "list" #[] e1)]) σ H' s) (hs : Same H H') (hk : Dts X.K H' O kvs kds) (hv : Vals kvs ks) (k1 : Dt X.K H' O kv kd) (k2 : RelV kv k)
    (hu : ∃ e', h'.get? kS = some (seqObj "list" (ks ++ [k]).toArray e')) (kept : ∀ b u, b ≠ kS → s.heap.get? b = some u → h'.get? b = some u) : Mid X pins σ H O kS D e1 (kds ++ [kd]) (ks ++ [k]) { s with heap := h' } := by
  obtain ⟨e', hu⟩ := hu
  have pS := I.pin (kS, seqObj "list" ks.toArray e) (by simp)
  have pD := I.pin (D, seqObj "list" #[] e1) (by simp)
  have I1 : Inv X pins σ H' s := I.pins_of fun p hp => I.pin p (by simp only [List.mem_append] at hp ⊢; exact .inr (.inl hp))
  have I2 : Inv X pins σ H' { s with heap := h' } := I1.turned (t' := s.toks) (it := kS) kept pS.2.1 oS.1 oS.2.2.1 oS.2.2.2.1 oS.2.2.2.2
  refine ⟨H', kvs ++ [kv], e', I2.pins_of fun p hp => ?_, hs, hk.append (.cons k1 .nil), hv.append (.cons k2 .nil)⟩
  rcases List.mem_append.mp hp with z | z
  · exact I2.pin p (List.mem_append_right _ z)
  · simp only [List.mem_cons, List.not_mem_nil, or_false] at z
    rcases z with rfl | rfl
    · exact ⟨hu, pS.2.1, oS.1, oS.2.1, fun v z => by cases z⟩
    · exact ⟨kept _ _ (Ne.symm hne) pD.1, pD.2.1, oD.1, oD.2.1, fun v z => by cases z⟩
theorem keys_ok {k : Nat} {f : Addr} {fd : FuncData} {ps : List Str} {F : List PyData → (PyData → Prop) → Prop} {O : Ex} {kS D : Addr} {e1 : Nat} {kd : PyData → PyData} (Fk : FnOk X.prog X.w X.K X.mg X.base CX0 k f fd ps (spD X.K F)) (hr : Room k X.A.in1.in1) (hb : Binds X.K fd ps []) (trk : ∀ l, O l → H l ≠ none)
    (oS : Out X pins kS) (oD : Out X pins D) (hne : kS ≠ D) {body : Value → PUnit → Sem (ForInStep PUnit)} {E : Value → Shared → Prop}
    (hbo : ∀ (x : Value) (s : Shared) (Q' : Shared → Prop), wpAny (model X.prog X.w) X.A.in1.in1 (call (.ref f) [x]) (fun k s' => wpAny (model X.prog X.w) X.A.in1.in1 (Builtin.List.listUpdate (.ref kS) (·.push k)) (fun _ s'' => Q' s'') (fun _ _ => False) s') (fun _ _ => False) s → wpAny (model X.prog X.w) X.A.in1.in1 (body x ⟨⟩) (fun r s' => r = .yield ⟨⟩ ∧ Q' s') E s) :
    ∀ (r : List Value) (xr : List V) (dr : List PyData) (kds : List PyData) (ks : List Value) (s : Shared) (Q : Shared → Prop), Vals xr r → Dts X.K H O xr dr → (∀ d ∈ dr, ∀ R : PyData → Prop, R (kd d) → F [d] R) → Mid X pins σ H O kS D e1 kds ks s → ks.length + r.length < 64 →
      (∀ ks' s', Mid X pins σ H O kS D e1 (kds ++ dr.map kd) ks' s' → ks'.length = ks.length + r.length → Q s') → wpAny (model X.prog X.w) X.A.in1.in1 (forIn r PUnit.unit body) (fun _ s' => Q s') E s
  | [], xr, dr, kds, ks, s, Q, hv, hd, hF, M, hl, q => by
    cases hv
    cases hd
    rw [List.forIn_nil]
    exact wpAny_pure (q ks s (by rw [List.map_nil, List.append_nil]; exact M) (by simp))
  | x :: r, xr, dr, kds, ks, s, Q, hv, hd, hF, M, hl, q => by
    cases hv with
    | @cons v _ xr _ h1 h2 =>
      cases hd with
      | @cons _ d _ dr g1 g2 =>
        rw [List.forIn_cons]
        rw [List.length_cons] at hl
        obtain ⟨H', kvs, e, I, hs, hk, hvk⟩ := M.ex
        refine wpAny_bind (wpAny_mono (hbo x s (fun s' => ∃ k, Mid X pins σ H O kS D e1 (kds ++ [kd d]) (ks ++ [k]) s') (wpAny_mono (run_in (Q := fun v2 H2 => Same H' H2 ∧ Dt X.K H2 O v2 (kd d)) Fk hr hb I h1 ⟨O, [d], fun y => y = kd d, fun l z e => trk l z (by
          cases q : H l with
          | none => rfl
          | some u => rw [hs _ _ q] at e; cases e), .cons (g1.mono hs) .nil, hF d (by simp) _ rfl, fun y v2 H2 e s2 r2 => by subst e; exact ⟨s2, r2⟩⟩) (fun kk s' hq => ?_) fun _ _ z => z)) (fun r' s' hq => ?_) fun _ _ z => z)
        · obtain ⟨kv, H2, I2, rk, s2, dk⟩ := hq
          have pS := I2.pin (kS, seqObj "list" ks.toArray e) (by simp)
          refine listUpdate_at pS.1 rfl ⟨kk, ?_⟩ (by rw [List.size_toArray]; have : sizeLine = 16777216 := sizeLine_eq; omega) (by rw [Array.size_push, List.size_toArray]; have : sizeLine = 16777216 := sizeLine_eq; omega)
          have u1 := Heap.SameBut.update s'.heap kS (Obj.mapSeq (·.push kk))
          have gk := get?_update_seq pS.1 (·.push kk)
          rw [show ks.toArray.push kk = (ks ++ [kk]).toArray by simp] at gk
          exact Mid.push oS oD hne I2 (hs.trans s2) (hk.mono s2) hvk dk rk ⟨_, gk⟩ fun b u n z => (u1.2 b n).trans z
        · obtain ⟨rfl, kk, M'⟩ := hq
          refine keys_ok Fk hr hb trk oS oD hne hbo r xr dr (kds ++ [kd d]) (ks ++ [kk]) s' Q h2 g2 (fun y hy => hF y (by simp [hy])) M' (by simp; omega) fun ks' s2 M2 l2 => q ks' s2 ?_ (by rw [l2]; simp; omega)
          rw [List.map_cons, ← List.singleton_append, ← List.append_assoc]
          exact M2
/-- pairs as data -/
def prD (p : Int × Str) : PyData := .tuple [.int p.1, .str p.2]
theorem isPr_of {h : V} {u : Value} {O : Ex} {p : Int × Str} (I : Inv X pins σ H s) (d : Dt X.K H O h (prD p)) (r : RelV h u) : IsPr s.heap u p := by
  obtain ⟨a, xs, rfl, hq, hd⟩ := (Sh.dt d).tup
  cases r
  obtain ⟨its, rv, ⟨o, e, c, n, dd⟩, _⟩ := I.tuple hq
  cases hd with
  | cons g1 g2 =>
    cases g2 with
    | cons g2 g3 =>
      cases g3; cases g1; cases g2
      cases rv with
      | cons r1 r2 =>
        cases r2 with
        | cons r2 r3 =>
          cases r3
          obtain ⟨t, rfl⟩ := r1
          obtain ⟨u, rfl⟩ := r2
          exact ⟨a, o, n, t, u, rfl, e, c, dd⟩
theorem dts_get {K : PySem.W.Frag} {H : Hp} {O : Ex} : ∀ {xs : List V} {ds : List PyData} {i : Nat} {d : PyData}, Dts K H O xs ds → ds[i]? = some d → ∃ x, xs[i]? = some x ∧ Dt K H O x d
  | _, _, 0, d, .cons h r, e => by simp at e; subst e; exact ⟨_, rfl, h⟩
  | _, _, i + 1, d, .cons h r, e => by simp only [List.getElem?_cons_succ] at e ⊢; exact dts_get r e
theorem vals_get {xs : List V} {us : List Value} : ∀ {i : Nat} {u : Value}, Vals xs us → us[i]? = some u → ∃ x, xs[i]? = some x ∧ RelV x u := by
  intro i u h e
  have hl := h.length
  have hi : i < us.length := (List.getElem?_eq_some_iff.mp e).1
  obtain ⟨u', e', r⟩ := h.get (show xs[i]? = some (xs[i]'(by omega)) by simp)
  rw [e] at e'; cases e'
  exact ⟨_, by simp, r⟩
theorem mid_keys {O : Ex} {kS D : Addr} {e1 : Nat} {kps : List (Int × Str)} {ks : List Value} (M : Mid X pins σ H O kS D e1 (kps.map prD) ks s) : (∀ i v, ks[i]? = some v → IsPr s.heap v (kps.getD i (0, Str.ofString ""))) ∧ ks.length = kps.length := by
  obtain ⟨H', kvs, e, I, hs, hk, hv⟩ := M.ex
  have hl : ks.length = kps.length := by rw [← hv.length, hk.length, List.length_map]
  refine ⟨fun i v ei => ?_, hl⟩
  have hi : i < kps.length := by rw [← hl]; exact (List.getElem?_eq_some_iff.mp ei).1
  obtain ⟨x, ex, rx⟩ := vals_get hv ei
  obtain ⟨y, ey, dy⟩ := dts_get (i := i) (d := prD kps[i]) hk (by rw [List.getElem?_map, List.getElem?_eq_getElem hi]; rfl)
  rw [ex] at ey; cases ey
  have : kps.getD i (0, Str.ofString "") = kps[i] := by simp [hi]
  rw [this]
  exact isPr_of I dy rx
/-- list.sort(key=f), the keys pairs -/
theorem tree_ok {k : Nat} {f : Addr} {fd : FuncData} {ps : List Str} {F : List PyData → (PyData → Prop) → Prop} {O : Ex} {D : Addr} {n0 : Nat} {kf : PyData → Int × Str} {vs : List Value} {xs : List V} {ds : List PyData} {Q : V → Hp → Prop} {C : PySem.Fin → Shared → Prop} {E : Value → Shared → Prop}
    (Fk : FnOk X.prog X.w X.K X.mg X.base CX0 k f fd ps (spD X.K F)) (hr : Room k X.A.in1.in1) (hb : Binds X.K fd ps []) (trk : ∀ l, O l → H l ≠ none) (I : Inv X pins σ H s) (oD : Out X pins D) (hHD : H D = none) (hD : s.heap.get? D = some (seqObj "list" vs.toArray n0))
    (hv : Vals xs vs) (hd : Dts X.K H O xs ds) (hF : ∀ d ∈ ds, ∀ R : PyData → Prop, R (prD (kf d)) → F [d] R) (h64 : ds.length < 64) (nd : (ds.map kf).Nodup)
    (q : ∀ (H' : Hp) (xs' : List V) (ds' : List PyData), Same H H' → H' D = none → Dts X.K H' O xs' ds' → ds'.Perm ds → ds'.Pairwise (fun a b => ltP (kf a) (kf b) = true) → Q (.ref D) (upd H' D (.lst xs')))
    (fin : ∀ s', EP X pins σ Q (.ref D) s' → C (.done (.ret .none)) s') : wpAny (model X.prog X.w) X.A.in1.in1 (ksk_tree D (.ref f) false) C E s := by
  have hsl : sizeLine = 16777216 := sizeLine_eq
  have lv : vs.length = ds.length := by rw [← hv.length, hd.length]
  have lD : D < s.heap.objs.size := Heap.lt_size hD
  unfold ksk_tree
  refine wpAny_bind (listItems_at hD rfl (wpAny_bind (listUpdate_at hD rfl ?_ (by rw [List.size_toArray]; omega) (Nat.zero_le _))))
  have u1 := Heap.SameBut.update s.heap D (Obj.mapSeq fun _ => (#[] : Array Value))
  have g1 := get?_update_seq hD fun _ => (#[] : Array Value)
  have I1 : Inv X pins σ H { s with heap := s.heap.update D (Obj.mapSeq fun _ => (#[] : Array Value)) } := I.turned (t' := s.toks) (it := D) (fun b u n z => (u1.2 b n).trans z) hHD oD.1 oD.2.2.1 oD.2.2.2.1 oD.2.2.2.2
  generalize s.heap.update D (Obj.mapSeq fun _ => (#[] : Array Value)) = h1 at *
  generalize (if (#[] : Array Value).size == vs.toArray.size then n0 else n0 + 1) = e1 at *
  refine wpAny_bind (seqEpoch_at (s := { s with heap := h1 }) g1 rfl ?_)
  refine wpAny_bind (wpAny_newTuple ?_ (by show vs.length ≤ _; omega))
  have I2 : Inv X pins σ H { s with heap := h1.push { cls := .type "tuple", data := .seq vs.toArray } } := I1.kept (t' := s.toks) fun b u z => Heap.get?_push_of_some _ z
  have g2 : (h1.push { cls := .type "tuple", data := .seq vs.toArray }).get? D = some (seqObj "list" #[] e1) := Heap.get?_push_of_some _ g1
  show wpAny _ _ _ _ _ { s with heap := h1.push { cls := .type "tuple", data := .seq vs.toArray } }
  generalize h1.push { cls := .type "tuple", data := .seq vs.toArray } = h2 at *
  refine wpAny_bind (wpAny_newList (s := { s with heap := h2 }) ?_ (Nat.zero_le _))
  have oS : Out X pins h2.objs.size := I2.out (Nat.le_refl _)
  have hne : h2.objs.size ≠ D := Nat.ne_of_gt (Heap.lt_size g2)
  have I3 : Inv X pins σ H { s with heap := h2.push (seqObj "list" #[] 0) } := I2.kept (t' := s.toks) fun b u z => Heap.get?_push_of_some _ z
  have hS0 : H h2.objs.size = none := I2.hok.fresh (Nat.le_refl _)
  have M0 : Mid X pins σ H O h2.objs.size D e1 [] [] { s with heap := h2.push (seqObj "list" #[] 0) } := by
    refine ⟨H, [], 0, I3.pins_of fun p hp => ?_, Same.refl _, .nil, .nil⟩
    rcases List.mem_append.mp hp with z | z
    · exact I3.pin p (List.mem_append_right _ z)
    · simp only [List.mem_cons, List.not_mem_nil, or_false] at z
      rcases z with rfl | rfl
      · exact ⟨Heap.get?_push_size _ rfl, hS0, oS.1, oS.2.1, fun v z => by cases z⟩
      · exact ⟨Heap.get?_push_of_some _ g2, hHD, oD.1, oD.2.1, fun v z => by cases z⟩
  refine wpAny_holding ?_
  unfold ksk_rest
  refine wpAny_bind (wpAny_rule ?_)
  rw [List.forIn_toArray]
  refine wpAny_bind (keys_ok (kd := fun d => prD (kf d)) (E := E) Fk hr hb trk oS oD hne (fun x s' Q' hx => ?_) vs xs ds [] [] _ _ hv hd hF M0 (by simp; omega) fun ks s' M hkl => ?_)
  · refine wpAny_bind (wpAny_attempt (wpAny_mono hx (fun kk s2 hk => ?_) fun _ _ z => z.elim))
    exact wpAny_bind (wpAny_mono hk (fun _ s3 z => wpAny_pure ⟨rfl, z⟩) fun _ _ z => z.elim)
  · rw [List.nil_append, ← Function.comp_def, ← List.map_map] at M
    obtain ⟨hk, hkn⟩ := mid_keys M
    rw [List.length_map] at hkn
    obtain ⟨H', kvs, e, I4, hs, _, _⟩ := M.ex
    have pS := I4.pin (h2.objs.size, seqObj "list" ks.toArray e) (by simp)
    have pD := I4.pin (D, seqObj "list" #[] e1) (by simp)
    have I5 : Inv X pins σ H' s' := I4.pins_of fun p hp => I4.pin p (by simp only [List.mem_append] at hp ⊢; exact .inr (.inl hp))
    refine wpAny_bind (listItems_at pS.1 rfl ?_)
    refine end_ok (n := ds.length) (kp := fun i => (ds.map kf).getD i (0, Str.ofString "")) lv hkn h64 pS.1 pD.1 hne hk (fun i j hi hj ee => ?_) fun p pp pu h' c gD kept => ?_
    · have e1' : (ds.map kf).getD i (0, Str.ofString "") = (ds.map kf)[i]'(by simpa using hi) := by simp [hi]
      have e2' : (ds.map kf).getD j (0, Str.ofString "") = (ds.map kf)[j]'(by simpa using hj) := by simp [hj]
      rw [e1', e2'] at ee
      exact (List.getElem_inj nd).mp ee
    · refine fin _ ⟨.ref D, upd H' D (.lst (p.toList.map fun i => xs.getD i .non)), ?_, rfl, q H' _ (p.toList.map fun i => ds.getD i .none) hs pD.2.1 ?_ ?_ ?_⟩
      · refine I5.track (t' := s'.toks) (ch := [h2.objs.size, D]) (by simp) (fun b hb => ?_) (fun b u hb z => kept b u (fun y => hb (by simp [y])) (fun y => hb (by simp [y])) z) ⟨?_, _, c, ?_, gD⟩
        · simp only [List.mem_cons, List.not_mem_nil, or_false] at hb
          rcases hb with rfl | rfl
          · exact ⟨pS.2.1, oS⟩
          · exact ⟨pD.2.1, oD⟩
        · rw [List.length_map, Array.length_toList, pp.size]; omega
        · have : ∀ l : List Nat, (∀ i ∈ l, i < ds.length) → Vals (l.map fun i => xs.getD i .non) (l.map fun i => vs.getD i .none) := by
            intro l
            induction l with
            | nil => intro _; exact .nil
            | cons a l ih =>
              intro hl
              have ha := hl a (by simp)
              refine .cons ?_ (ih fun i hi => hl i (by simp [hi]))
              obtain ⟨x, ex, rx⟩ := vals_get hv (show vs[a]? = some (vs[a]'(by omega)) by simp)
              have e1' : xs.getD a .non = x := by simp [ex]
              have e2' : vs.getD a .none = vs[a]'(by omega) := by simp [show a < vs.length by omega]
              show RelV (xs.getD a .non) (vs.getD a .none)
              rw [e1', e2']; exact rx
          exact this _ fun i hi => by simpa using pp.perm.mem_iff.mp hi
      · have : ∀ l : List Nat, (∀ i ∈ l, i < ds.length) → Dts X.K H' O (l.map fun i => xs.getD i .non) (l.map fun i => ds.getD i .none) := by
          intro l
          induction l with
          | nil => intro _; exact .nil
          | cons a l ih =>
            intro hl
            have ha := hl a (by simp)
            refine .cons ?_ (ih fun i hi => hl i (by simp [hi]))
            obtain ⟨x, ex, dx⟩ := dts_get (i := a) (d := ds[a]) hd (by simp [ha])
            have e1' : xs.getD a .non = x := by simp [ex]
            have e2' : ds.getD a .none = ds[a] := by simp [ha]
            show Dt X.K H' O (xs.getD a .non) (ds.getD a .none)
            rw [e1', e2']; exact dx.mono hs
        exact this _ fun i hi => by simpa using pp.perm.mem_iff.mp hi
      · have h1 := pp.perm.map fun i => ds.getD i .none
        have e : (List.range ds.length).map (fun i => ds.getD i PyData.none) = ds := by
          apply List.ext_getElem (by simp)
          intro i a b
          simp at a b ⊢
          rw [List.getElem?_eq_getElem b]; rfl
        rw [e] at h1
        exact h1
      · rw [List.pairwise_map, List.pairwise_iff_getElem]
        intro i j hi hj hij
        have := pu i j hij (by rw [Array.length_toList, pp.size] at hj; exact hj)
        have ei : p.getD i 0 = p.toList[i] := by simp [Array.getD, show i < p.size by simpa using hi]
        have ej : p.getD j 0 = p.toList[j] := by simp [Array.getD, show j < p.size by simpa using hj]
        rw [ei, ej] at this
        have li : p.toList[i] < ds.length := by simpa using pp.perm.mem_iff.mp (List.getElem_mem hi)
        have lj : p.toList[j] < ds.length := by simpa using pp.perm.mem_iff.mp (List.getElem_mem hj)
        have ff : ∀ a, a < ds.length → (ds.map kf).getD a (0, Str.ofString "") = kf (ds.getD a .none) := fun a ha => by simp [ha]
        dsimp only at this
        rw [ff _ li, ff _ lj] at this
        exact this
/-- sorted(l, key=f) -/
theorem sorted_key {k : Nat} {f l : Addr} {fd : FuncData} {ps : List Str} {F : List PyData → (PyData → Prop) → Prop} {O : Ex} {kf : PyData → Int × Str} {xs : List V} {ds : List PyData} {Q : VK}
    (hc : X.calm = true) (Fk : FnOk X.prog X.w X.K X.mg X.base CX0 k f fd ps (spD X.K F)) (hr : Room k X.A.in1.in1) (hb : Binds X.K fd ps []) (trk : ∀ l, O l → H l ≠ none) (I : Inv X pins σ H s) (hq : SqL X.K H l xs)
    (hd : Dts X.K H O xs ds) (hF : ∀ d ∈ ds, ∀ R : PyData → Prop, R (prD (kf d)) → F [d] R) (h64 : ds.length < 64) (nd : (ds.map kf).Nodup)
    (q : ∀ (H' : Hp) (p : Addr) (xs' : List V) (ds' : List PyData), Same H H' → H' p = none → Dts X.K H' O xs' ds' → ds'.Perm ds → ds'.Pairwise (fun a b => ltP (kf a) (kf b) = true) → Q (.ref p) (upd H' p (.lst xs'))) :
    wpAny (model X.prog X.w) X.A (call (.builtin "sorted") [.ref l] [(Str.ofString "key", .ref f)]) (EP X pins σ Q) X.xe s := by
  have hsl : sizeLine = 16777216 := sizeLine_eq
  obtain ⟨vs, hv, pl, hz⟩ := I.list hq
  have lv : vs.length = ds.length := by rw [← hv.length, hd.length]
  refine call_function_entry_kw kind_sorted plain_sorted entry_sorted (ksk_s1 _ _) ?_
  unfold Builtin.«sorted»
  refine wpAny_bind (m := checkCount "sorted" 1 1 _) (wpAny_pure ?_)
  refine wpAny_bind (collect_list pl.isList ?_ (by omega))
  have I1 : Inv X pins σ H { s with heap := (s.heap.push (seqObj "list" #[] 0)).update s.heap.objs.size (Obj.mapSeq (· ++ vs.toArray)) } := by
    refine I.kept (t' := s.toks) fun b u z => ?_
    have hlt : b < s.heap.objs.size := Heap.lt_size z
    exact (Heap.get?_update_ne _ _ _ _ (Nat.ne_of_lt hlt)).trans (Heap.get?_push_of_some _ z)
  generalize (s.heap.push (seqObj "list" #[] 0)).update s.heap.objs.size (Obj.mapSeq (· ++ vs.toArray)) = h1 at *
  refine wpAny_bind (wpAny_newList (s := { s with heap := h1 }) ?_ (by omega))
  have I2 : Inv X pins σ H { s with heap := h1.push (seqObj "list" vs.toArray 0) } := I1.kept (t' := s.toks) fun b u z => Heap.get?_push_of_some _ z
  have gD : (h1.push (seqObj "list" vs.toArray 0)).get? h1.objs.size = some (seqObj "list" vs.toArray 0) := Heap.get?_push_size _ rfl
  refine wpAny_bind (wpAny_holding (wpAny_call_entry_kw slot_list_sort ⟨_, gD, rfl⟩ entry_list_sort ?_ (ksk_l1 _ _)))
  rw [ksk_t1]
  refine tree_ok (kf := kf) Fk hr hb trk I2 (I1.out (Nat.le_refl _)) (I1.hok.fresh (Nat.le_refl _)) gD hv hd hF h64 nd (Q := Q) (fun H' xs' ds' a b c d e => q H' _ xs' ds' a b c d e) fun s' hs' => ?_
  exact ⟨_, rfl, wpAny_pure ⟨_, rfl, hs'⟩⟩
end
end L2

namespace L2
open PySem PySem.Spec PyProof.Rows PySem.W PySem.Calls
section
variable {P : Program} {w : World} {A : Around} {E : Value → Shared → Prop} {s : Shared}
/-- the places of a sorted list -/
theorem plain_ok {D : Addr} {vs : List Value} {n n0 : Nat} {kp : Nat → Int × Str} {C : PySem.Fin → Shared → Prop} (hv : vs.length = n) (h64 : n < 64) (hD : s.heap.get? D = some (seqObj "list" vs.toArray n0)) (hk : ∀ i v, vs[i]? = some v → IsPr s.heap v (kp i) ∧ v ≠ .ref D) (hd : ∀ i j, i < n → j < n → kp i = kp j → i = j)
    (q : ∀ p, Places n p → Up (fun i j => ltP (kp i) (kp j)) p n → ∀ h' c, h'.get? D = some (seqObj "list" (p.toList.map fun i => vs.getD i .none).toArray c) → (∀ b u, b ≠ D → s.heap.get? b = some u → h'.get? b = some u) → C (.done (.ret .none)) { s with heap := h' }) :
    wpAny (model P w) A (Builtin.«list.sort» ⟨[.ref D], []⟩) C E s := by
  have hsl : sizeLine = 16777216 := sizeLine_eq
  rw [list_sort_plain]
  refine wpAny_bind (listItems_at hD rfl (wpAny_bind (listUpdate_at hD rfl ?_ (by rw [List.size_toArray]; omega) (Nat.zero_le _))))
  have u1 := Heap.SameBut.update s.heap D (Obj.mapSeq fun _ => (#[] : Array Value))
  have g1 := get?_update_seq hD fun _ => (#[] : Array Value)
  have k1 : ∀ b u, b ≠ D → s.heap.get? b = some u → (s.heap.update D (Obj.mapSeq fun _ => (#[] : Array Value))).get? b = some u := fun b u n z => (u1.2 b n).trans z
  generalize s.heap.update D (Obj.mapSeq fun _ => (#[] : Array Value)) = h1 at *
  generalize (if (#[] : Array Value).size == vs.toArray.size then n0 else n0 + 1) = e1 at *
  refine wpAny_bind (seqEpoch_at (s := { s with heap := h1 }) g1 rfl ?_)
  refine wpAny_bind (wpAny_newTuple ?_ (by show vs.length ≤ _; omega))
  refine wpAny_bind (wpAny_newList ?_ (Nat.zero_le _))
  have g2 : ((h1.push { cls := .type "tuple", data := .seq vs.toArray }).push { cls := .type "list", data := .seq ([] : List Value).toArray }).get? D = some (seqObj "list" #[] e1) := Heap.get?_push_of_some _ (Heap.get?_push_of_some _ g1)
  have k2 : ∀ b u, b ≠ D → s.heap.get? b = some u → ((h1.push { cls := .type "tuple", data := .seq vs.toArray }).push { cls := .type "list", data := .seq ([] : List Value).toArray }).get? b = some u := fun b u n z => Heap.get?_push_of_some _ (Heap.get?_push_of_some _ (k1 b u n z))
  show wpAny _ _ _ _ _ { s with heap := (h1.push { cls := .type "tuple", data := .seq vs.toArray }).push { cls := .type "list", data := .seq ([] : List Value).toArray } }
  generalize (h1.push { cls := .type "tuple", data := .seq vs.toArray }).push { cls := .type "list", data := .seq ([] : List Value).toArray } = h2 at *
  refine wpAny_holding ?_
  have hz : vs.toArray.size = n := by rw [List.size_toArray]; exact hv
  have last : ∀ (st : SortSt) (p : Array Nat), Places n p → Up (fun i j => ltP (kp i) (kp j)) p n → failedOf st = none → (arrOf st).map (·.2) = (p.toList.map fun i => vs.getD i .none).toArray →
      wpAny (model P w) A (do
        let touched := (← seqEpoch D) != e1
        Builtin.List.listUpdate (.ref D) fun _ => (arrOf st).map (·.2)
        if let some e := failedOf st then rule "list.sort.comparison-raised"; throw e
        if touched then rule "list.sort.modified"; raiseError "ValueError" "list modified during sort"
        ret .none) C E { s with heap := h2 } := by
    intro st p p1 p2 hf ho
    rw [ho, hf]
    refine wpAny_bind (seqEpoch_at (s := { s with heap := h2 }) g2 rfl ?_)
    refine wpAny_bind (listUpdate_at (s := { s with heap := h2 }) g2 rfl ?_ (Nat.zero_le _) (by rw [List.size_toArray, List.length_map, Array.length_toList, p1.size]; omega))
    simp only [bne_self_eq_false, Bool.false_eq_true, if_false]
    have u3 := Heap.SameBut.update h2 D (Obj.mapSeq fun _ => (p.toList.map fun i => vs.getD i Value.none).toArray)
    exact wpAny_pure (q p p1 p2 _ _ (get?_update_seq g2 fun _ => (p.toList.map fun i => vs.getD i Value.none).toArray) fun b u n z => (u3.2 b n).trans (k2 b u n z))
  by_cases h2' : n < 2
  · simp only [hz, h2', if_true]
    refine wpAny_bind (wpAny_pure (wpAny_bind (wpAny_pure ?_)))
    refine last _ (List.toArray (List.range n)) (places0 n) (fun i j a b => by omega) rfl ?_
    show (vs.toArray.zip vs.toArray).map (·.2) = _
    apply Array.toList_inj.mp
    simp only [Array.toList_map, Array.toList_zip]
    rw [List.map_snd_zip (by omega)]
    apply List.ext_getElem (by simp [hv])
    intro i a b
    simp at a b ⊢
    rw [List.getElem?_eq_getElem a]; rfl
  · simp only [hz, h2', if_false]
    have hk2 : ∀ i v, vs[i]? = some v → IsPr h2 v (kp i) := fun i v e => by
      obtain ⟨⟨a, o, m, t, u, rfl, x1, x2, x3⟩, ne⟩ := hk i v e
      exact ⟨a, o, m, t, u, rfl, k2 a o (fun z => ne (by rw [z])) x1, x2, x3⟩
    refine wpAny_bind (pairs_kind (s := { s with heap := h2 }) hk2 (by omega) ?_)
    refine wpAny_bind (wpAny_mono (kat_run (κ := tuples' true) (ks := vs) (s := { s with heap := h2 }) (E := fun _ _ => False) (Q := fun st' s' => s' = { s with heap := h2 } ∧ ∃ p, Places n p ∧ Up (fun i j => ltP (kp i) (kp j)) p n ∧ arrOf st' = p.map (kas_item (vs.toArray.zip vs.toArray)) ∧ failedOf st' = none) (G := fun p s' => s' = { s with heap := h2 } ∧ Places n p ∧ Up (fun i j => ltP (kp i) (kp j)) p n) rfl (by omega) (by omega)
      (fun p st' s' a b c d => ⟨d.1, p, d.2.1, d.2.2, b, c⟩) ?_) (fun r s' hr => ?_) fun _ _ x => x.elim)
    · rw [hv]
      exact pairs_sort (s := { s with heap := h2 }) hv (by omega) hk2 hd fun p a b => ⟨rfl, a, b⟩
    · obtain ⟨rfl, p, p1, p2, p3, p4⟩ := hr
      exact last _ p p1 p2 p4 (kat_snds rfl p3)
end
theorem call_sortedPr {X : Cx} : CallR X (.builtin "sorted") (fun xs H Q => ∃ (p : Addr) (us : List V) (O : Ex) (ps : List (Int × Str)), xs = [.ref p] ∧ SqL X.K H p us ∧ Dts X.K H O us (ps.map prD) ∧ ps.length < 64 ∧ ps.Nodup ∧ ∀ (l : Addr) (us' : List V) (ps' : List (Int × Str)), H l = none → Dts X.K H O us' (ps'.map prD) → ps'.Perm ps → ps'.Pairwise (fun a b => ltP a b = true) → Q (.ref l) (upd H l (.lst us'))) := by
  intro pins s σ H xs ws Q I r h
  obtain ⟨l, us, O, ps, rfl, hq, hd, h64, nd, q⟩ := h
  obtain ⟨u, rfl, rx⟩ := vals1 r
  cases rx
  have hsl : sizeLine = 16777216 := sizeLine_eq
  obtain ⟨vs, hv, pl, hz⟩ := I.list hq
  have lv : vs.length = ps.length := by rw [← hv.length, hd.length, List.length_map]
  refine Calls.call_function_entry kind_sorted plain_sorted entry_sorted (args_sorted1 _) ?_
  unfold Builtin.«sorted»
  refine wpAny_bind (m := checkCount "sorted" 1 1 _) (wpAny_pure ?_)
  refine wpAny_bind (collect_list pl.isList ?_ (by omega))
  have I1 : Inv X pins σ H { s with heap := (s.heap.push (seqObj "list" #[] 0)).update s.heap.objs.size (Obj.mapSeq (· ++ vs.toArray)) } := by
    refine I.kept (t' := s.toks) fun b u z => ?_
    have hlt : b < s.heap.objs.size := Heap.lt_size z
    exact (Heap.get?_update_ne _ _ _ _ (Nat.ne_of_lt hlt)).trans (Heap.get?_push_of_some _ z)
  generalize (s.heap.push (seqObj "list" #[] 0)).update s.heap.objs.size (Obj.mapSeq (· ++ vs.toArray)) = h1 at *
  refine wpAny_bind (wpAny_newList (s := { s with heap := h1 }) ?_ (by omega))
  have I2 : Inv X pins σ H { s with heap := h1.push (seqObj "list" vs.toArray 0) } := I1.kept (t' := s.toks) fun b u z => Heap.get?_push_of_some _ z
  have gD : (h1.push (seqObj "list" vs.toArray 0)).get? h1.objs.size = some (seqObj "list" vs.toArray 0) := Heap.get?_push_size _ rfl
  have hH : H h1.objs.size = none := I1.hok.fresh (Nat.le_refl _)
  have oD : Out X pins h1.objs.size := I1.out (Nat.le_refl _)
  have isp : ∀ i v, vs[i]? = some v → IsPr (h1.push (seqObj "list" vs.toArray 0)) v (ps.getD i (0, Str.ofString "")) ∧ v ≠ .ref h1.objs.size := fun i v ei => by
    have hi : i < ps.length := by rw [← lv]; exact (List.getElem?_eq_some_iff.mp ei).1
    obtain ⟨x, ex, rx⟩ := vals_get hv ei
    obtain ⟨y, ey, dy⟩ := dts_get (i := i) (d := prD ps[i]) hd (by rw [List.getElem?_map, List.getElem?_eq_getElem hi]; rfl)
    rw [ex] at ey; cases ey
    have e : ps.getD i (0, Str.ofString "") = ps[i] := by simp [hi]
    rw [e]
    have a := isPr_of I1 dy rx
    refine ⟨isPr_of I2 dy rx, fun z => ?_⟩
    obtain ⟨ad, o, m, t, u, e1, e2, _⟩ := a
    rw [e1] at z
    cases z
    exact absurd (Heap.lt_size e2) (Nat.lt_irrefl _)
  refine wpAny_bind (wpAny_holding (wpAny_call_entry slot_list_sort ⟨_, gD, rfl⟩ entry_list_sort ?_ (args_list_sort _)))
  refine plain_ok (s := { s with heap := h1.push (seqObj "list" vs.toArray 0) }) (n := ps.length) (kp := fun i => ps.getD i (0, Str.ofString "")) lv h64 gD isp (fun i j hi hj ee => ?_) fun p pp pu h' c g kept => ?_
  · have e1' : ps.getD i (0, Str.ofString "") = ps[i] := by simp [hi]
    have e2' : ps.getD j (0, Str.ofString "") = ps[j] := by simp [hj]
    rw [e1', e2'] at ee
    exact (List.getElem_inj nd).mp ee
  · have lt : ∀ i ∈ p.toList, i < ps.length := fun i hi => by simpa using pp.perm.mem_iff.mp hi
    have dm : Dts X.K H O (p.toList.map fun i => us.getD i .non) ((p.toList.map fun i => ps.getD i (0, Str.ofString "")).map prD) := by
      have : ∀ l : List Nat, (∀ i ∈ l, i < ps.length) → Dts X.K H O (l.map fun i => us.getD i .non) ((l.map fun i => ps.getD i (0, Str.ofString "")).map prD) := by
        intro l
        induction l with
        | nil => intro _; exact .nil
        | cons a l ih =>
          intro hl
          have ha := hl a (by simp)
          refine .cons ?_ (ih fun i hi => hl i (by simp [hi]))
          obtain ⟨x, ex, dx⟩ := dts_get (i := a) (d := prD ps[a]) hd (by rw [List.getElem?_map, List.getElem?_eq_getElem ha]; rfl)
          have e1' : us.getD a .non = x := by simp [ex]
          have e2' : ps.getD a (0, Str.ofString "") = ps[a] := by simp [ha]
          show Dt X.K H O (us.getD a .non) (prD (ps.getD a (0, Str.ofString "")))
          rw [e1', e2']; exact dx
      exact this _ lt
    have vm : Vals (p.toList.map fun i => us.getD i .non) (p.toList.map fun i => vs.getD i .none) := by
      have : ∀ l : List Nat, (∀ i ∈ l, i < ps.length) → Vals (l.map fun i => us.getD i .non) (l.map fun i => vs.getD i .none) := by
        intro l
        induction l with
        | nil => intro _; exact .nil
        | cons a l ih =>
          intro hl
          have ha := hl a (by simp)
          refine .cons ?_ (ih fun i hi => hl i (by simp [hi]))
          obtain ⟨x, ex, rx⟩ := vals_get hv (show vs[a]? = some (vs[a]'(by omega)) by simp)
          have e1' : us.getD a .non = x := by simp [ex]
          have e2' : vs.getD a .none = vs[a]'(by omega) := by simp [show a < vs.length by omega]
          show RelV (us.getD a .non) (vs.getD a .none)
          rw [e1', e2']; exact rx
      exact this _ lt
    refine ⟨_, rfl, wpAny_pure ⟨_, rfl, .ref h1.objs.size, upd H h1.objs.size (.lst (p.toList.map fun i => us.getD i .non)), ?_, rfl, q _ _ (p.toList.map fun i => ps.getD i (0, Str.ofString "")) hH dm ?_ ?_⟩⟩
    · refine I2.track (t' := s.toks) (ch := [h1.objs.size]) (by simp) (fun b hb => ?_) (fun b u hb z => kept b u (fun y => hb (by simp [y])) z) ⟨?_, _, c, vm, g⟩
      · rw [List.mem_singleton] at hb; subst hb; exact ⟨hH, oD⟩
      · rw [List.length_map, Array.length_toList, pp.size]; omega
    · have h1 := pp.perm.map fun i => ps.getD i (0, Str.ofString "")
      have e : (List.range ps.length).map (fun i => ps.getD i (0, Str.ofString "")) = ps := by
        apply List.ext_getElem (by simp)
        intro i a b
        simp at a b ⊢
        rw [List.getElem?_eq_getElem b]; rfl
      rw [e] at h1
      exact h1
    · rw [List.pairwise_map, List.pairwise_iff_getElem]
      intro i j hi hj hij
      have := pu i j hij (by rw [Array.length_toList, pp.size] at hj; exact hj)
      have ei : p.getD i 0 = p.toList[i] := by simp [Array.getD, show i < p.size by simpa using hi]
      have ej : p.getD j 0 = p.toList[j] := by simp [Array.getD, show j < p.size by simpa using hj]
      rw [ei, ej] at this
      exact this
section
variable {X : Cx} {H0 : Hp} {O0 : Ex}
def dSortPr (t : DA) : DA := fun δ Q => t δ fun ds => ∃ ps : List (Int × Str), ds = [.list (ps.map prD)] ∧ ps.length < 64 ∧ ps.Nodup ∧ ∀ ps' : List (Int × Str), ps'.Perm ps → ps'.Pairwise (fun a b => ltP a b = true) → Q (ps'.map prD)
theorem fe_sortPr {a : Expr} {t : DA} {np p : Pos} (hg : Gl X "sorted") (hm : X.mg "sorted" = none) (hv : bootBuiltins "sorted" = some (.builtin "sorted")) (ha : PA X [a] (upB X.K H0 O0 t)) (he : starEach [a] X.env = (false, eval a X.env) :: starEach [] X.env := by rfl) (hpl : (backTo p (starEach [] X.env)).any (·.1) = false := by rfl) :
    FE X H0 O0 (.Call (.Name "sorted" np) [a] [] p) (dSortPr t) :=
  (pe_callB call_sortedPr hg hm hv ha (he := he) (hpl := hpl)).imp fun σ H Q ⟨O, δ, Qd, w, q, k⟩ => ⟨O, δ, _, w, q, fun ds vs H1 ⟨ps, e, h64, nd, q1⟩ s1 r1 => by
    subst e
    cases r1 with
    | cons h r =>
      cases r
      obtain ⟨a, us, rfl, h1, d1⟩ := h.lst
      exact ⟨a, us, O, ps, rfl, h1, d1, h64, nd, fun l us' ps' hl hd hp hs => k _ _ _ _ (q1 ps' hp hs) s1 hl hd⟩⟩
def dSortKey (F : List PyData → (PyData → Prop) → Prop) (kf : PyData → Int × Str) (t : DA) : DA := fun δ Q => t δ fun ds0 => ∃ ds, ds0 = [.list ds] ∧ (∀ d ∈ ds, ∀ R : PyData → Prop, R (prD (kf d)) → F [d] R) ∧ ds.length < 64 ∧ (ds.map kf).Nodup ∧ ∀ ds', ds'.Perm ds → ds'.Pairwise (fun a b => ltP (kf a) (kf b) = true) → Q ds'
theorem fe_sortKey {a : Expr} {t : DA} {np p gp kp : Pos} {g : Str} {k : Nat} {f : Addr} {fd : FuncData} {ps : List Str} {F : List PyData → (PyData → Prop) → Prop} (kf : PyData → Int × Str) (hc : X.calm = true) (Fk : FnOk X.prog X.w X.K X.mg X.base CX0 k f fd ps (spD X.K F)) (hr : Room k X.A.in1.in1) (hb : Binds X.K fd ps [])
    (hgg : Gl X g) (hgm : X.mg g = some (.ref f)) (hg : Gl X "sorted") (hm : X.mg "sorted" = none) (hv : bootBuiltins "sorted" = some (.builtin "sorted")) (ha : PA X [a] (upB X.K H0 O0 t)) (hdb : (g == ("__debug__" : Str)) = false := by decide)
    (he : backTo p (starEach [a] X.env) = (false, eval a X.env) :: backTo p (starEach [] X.env) := by rfl) (hplain : (backTo p (starEach [a] X.env)).any (·.1) = false := by rfl) :
    FE X H0 O0 (.Call (.Name "sorted" np) [a] [⟨some "key", .Name g gp, kp⟩] p) (dSortKey F kf t) := by
  intro pins s σ H Q I h
  obtain ⟨O, δ, Qd, w, q, kk⟩ := h
  refine wpAny_Call_Name_kw (ld_blt I hg hm hv ?_)
  refine callWith_kw (thn (ha p pins s σ H (fun vs H1 => ∃ ds0, Same H H1 ∧ Shs X.K H1 O vs ds0 ∧ ∃ ds, ds0 = [.list ds] ∧ (∀ d ∈ ds, ∀ R : PyData → Prop, R (prD (kf d)) → F [d] R) ∧ ds.length < 64 ∧ (ds.map kf).Nodup ∧ ∀ ds', ds'.Perm ds → ds'.Pairwise (fun a b => ltP (kf a) (kf b) = true) → Qd ds') I ⟨O, δ, _, w, q, fun ds0 vs H1 q1 s1 r1 => ⟨ds0, s1, r1, q1⟩⟩) fun us s1 hus => ?_) he hplain rfl rfl
  obtain ⟨vs, H1, I1, rv, ds0, s1', r1, ds, e, hF, h64, nd, q1⟩ := hus
  subst e
  refine kws_cons (ld_glob I1 hgg hgm (kws_nil ?_) hdb)
  cases r1 with
  | cons h r =>
    cases r
    obtain ⟨ad, xs, rfl, hq, hd⟩ := h.lst
    obtain ⟨u, rfl, rx⟩ := vals1 rv
    cases rx
    exact sorted_key (kf := kf) hc Fk hr hb (w.mono s1').trk I1 hq hd hF h64 nd fun H' l xs' ds' a b c d e => kk _ _ _ _ (q1 ds' d e) (s1'.trans a) b c
end
end L2

namespace L2
open PySem PySem.Spec PyProof.Rows PySem.W PySem.Calls
/-! (n, x) < (m, y) -/
section
open PySem.SeqAt
open PySem.AutoSeq1 (wpAny_loadPart')
open PySem.MeetsSeq PySem.MeetsSeq2 PySem.MeetsSeq3
theorem tuple_lt_pr (l b : Addr) (n n2 : Nat) (dd dd2 : Option Addr) (sl sl2 : Array (Option Value)) (p q : Int × Str) (t1 t2 t3 t4 : Tok) :
    Meets (Builtin.«tuple.__lt__» ⟨[.ref l, .ref b], []⟩)
      (fun _ R s => s.heap.get? l = some { cls := .type "tuple", dict := dd, data := .seq #[.int p.1 t1, .str p.2 t2] n, slots := sl } ∧ s.heap.get? b = some { cls := .type "tuple", dict := dd2, data := .seq #[.int q.1 t3, .str q.2 t4] n2, slots := sl2 } ∧
        R (.ok (.ret (.bool (ltP p q)))) s) :=
  .of_wp fun prog w A R s h => by
    obtain ⟨hp, g, d, tk, os⟩ := s; obtain ⟨hl, hb, h⟩ := h
    have f2 := AutoSeq1.sub_tuple_tuple
    wp_walk using wpAny_loadPart' hl, wpAny_loadPart' hb, wpAny_forIn_list _ (fun rest b s' => b.1 = none ∧ s' = ⟨hp, g, d, tk, os⟩ ∧ (rest = [(Value.int p.1 t1, Value.int q.1 t3), (Value.str p.2 t2, Value.str q.2 t4)] ∨ (rest = [(Value.str p.2 t2, Value.str q.2 t4)] ∧ p.1 = q.1) ∨ (rest = [] ∧ p.1 = q.1 ∧ p.2 = q.2))) _
    case turn =>
      rintro ⟨y, x⟩ rest b s' ⟨hb', rfl, h3⟩
      rcases h3 with h3 | ⟨h3, e1⟩ | ⟨h3, _⟩
      · injection h3 with hyx hrest
        injection hyx with hy hx
        subst hy hx
        obtain ⟨e, he, hiff⟩ := HT.eqAt_int A.in1 ⟨hp, g, d, tk, os⟩ p.1 t1 q.1 t3
        refine wpAny_bind (he prog w _ _ ?_)
        cases e with
        | true =>
          wp_walk
          exact ⟨rfl, rfl, .inr (.inl ⟨hrest, hiff.mp rfl⟩)⟩
        | false =>
          have ne : p.1 ≠ q.1 := fun z => absurd (hiff.mpr z) Bool.false_ne_true
          have hri := HT.rcLt_int A.in1 ⟨hp, g, d, tk, os⟩ p.1 t1 q.1 t3 prog w
          have hv : ltP p q = decide (p.1 < q.1) := by unfold ltP; simp [ne]
          rw [hv] at h
          wp_walk using hri
          exact ⟨_, rfl, by simpa using h⟩
      · injection h3 with hyx hrest
        injection hyx with hy hx
        subst hy hx
        have he := EqAt.str_str (A := A.in1) (s := ⟨hp, g, d, tk, os⟩) p.2 t2 q.2 t4
        refine wpAny_bind (he prog w _ _ ?_)
        cases e : (p.2 == q.2) with
        | true =>
          wp_walk
          exact ⟨rfl, rfl, .inr (.inr ⟨hrest, e1, eq_of_beq e⟩)⟩
        | false =>
          have hri : ∀ (E : Value → Shared → Prop) (Q : Value → Shared → Prop), Q (.bool (decide (p.2.cps.toList < q.2.cps.toList))) ⟨hp, g, d, tk, os⟩ → wpAny (model prog w) A.in1 (richCompare .Lt (.str p.2 t2) (.str q.2 t4)) Q E ⟨hp, g, d, tk, os⟩ := fun E Q z => (lt_str z : wpAny (model prog w) A.in1 (compareOp .Lt (.str p.2 t2) (.str q.2 t4)) Q E _)
          have hv : ltP p q = decide (p.2.cps.toList < q.2.cps.toList) := by unfold ltP; simp [e1]
          rw [hv] at h
          wp_walk using hri
          exact ⟨_, rfl, by simpa using h⟩
      · cases h3
    case fin =>
      rintro ⟨b1, b2⟩ s' ⟨hb', rfl, h3⟩
      simp only at hb'
      subst hb'
      rcases h3 with h3 | ⟨h3, e1⟩ | ⟨h3, e1, e2⟩
      · cases h3
      · cases h3
      · have hv : ltP p q = false := by unfold ltP; rw [e1, e2]; simp
        rw [hv] at h
        wp_walk
        exact ⟨_, rfl, by simpa [Builtin.Tuple.tupleCompareSizes] using h⟩
    case h =>
      exact ⟨rfl, rfl, .inl rfl⟩
end
def rLtP (K : PySem.W.Frag) : R2 := fun x y H Q => ∃ a b p q, x = .ref a ∧ y = .ref b ∧ SqT K H a [.int p.1, .str p.2] ∧ SqT K H b [.int q.1, .str q.2] ∧ Q (.bl (ltP p q)) H
theorem op_ltP {X : Cx} (hu : X.A.units < cLine) : OpR X (compareOp .Lt) (rLtP X.K) := by
  intro pins s σ H x y v u Q I rx ry h
  obtain ⟨a, b, p, q, rfl, rfl, ha, hb, z⟩ := h
  cases rx
  cases ry
  obtain ⟨its, r1, ⟨⟨c1, d1, da1, s1⟩, o1, k1, n1, e1⟩, _⟩ := I.tuple ha
  obtain ⟨its2, r2, ⟨⟨c2, d2, da2, s2⟩, o2, k2, n2, e2⟩, _⟩ := I.tuple hb
  simp only at k1 e1 k2 e2
  subst k1 e1 k2 e2
  cases r1 with
  | cons x1 r1 => cases r1 with | cons x2 r1 => cases r1; obtain ⟨t1, rfl⟩ := x1; obtain ⟨t2, rfl⟩ := x2
                                                cases r2 with
                                                | cons y1 r2 => cases r2 with | cons y2 r2 => cases r2; obtain ⟨t3, rfl⟩ := y1; obtain ⟨t4, rfl⟩ := y2
                                                                                              exact richCompare_meets_room (op := .Lt) ⟨_, o1, rfl⟩ ⟨_, o2, rfl⟩ PySem.F.slot_tuple_lt PySem.F.entry_tuple_lt (PySem.F.args_tuple_lt_2 _ _) (tuple_lt_pr a b n1 n2 d1 d2 s1 s2 p q t1 t2 t3 t4) ⟨o1, o2, (fun x => nomatch x), .bl (ltP p q), H, I, rfl, z⟩ hu
def dLtP : PyData → PyData → (PyData → Prop) → Prop := fun x y Q => ∃ p q : Int × Str, x = prD p ∧ y = prD q ∧ Q (.bool (ltP p q))
theorem od_ltP {K : PySem.W.Frag} : OpD K (rLtP K) dLtP := fun H O x y dx dy Qd R _ hx hy ⟨p, q, e1, e2, z⟩ k => by
  subst e1 e2
  obtain ⟨a, xs, rfl, h1, g1⟩ := hx.tup
  obtain ⟨b, ys, rfl, h2, g2⟩ := hy.tup
  cases g1 with
  | cons x1 g1 => cases g1 with | cons x2 g1 => cases g1; cases x1; cases x2
                                                cases g2 with
                                                | cons y1 g2 => cases g2 with | cons y2 g2 => cases g2; cases y1; cases y2; exact ⟨a, b, p, q, rfl, rfl, h1, h2, k _ _ H z (Same.refl _) (.bl _)⟩
end L2

namespace L2
open PySem PySem.Spec PyProof.Rows PySem.W PySem.Calls
section
variable {X : Cx} {H0 : Hp} {O0 : Ex}
/-! while -/
def dWhile (tc : DB) (tb : DS) : DS := fun E δ => ∃ W : Nat → Dl → Prop, (∃ m, W m δ) ∧ ∀ m δ, W m δ → tc δ fun b => if b = true then tb { E with nx := fun δ' => ∃ m', m' < m ∧ W m' δ', ct := fun δ' => ∃ m', m' < m ∧ W m' δ', bk := E.nx } δ else E.nx δ
theorem ds_while {c : Expr} {body : List Stmt} {tc : DB} {tb : DS} {pos : Pos} (hp : PassesOwn (model X.prog X.w) X.A X.env X.xe) (hc : PT X c (upT X.K H0 O0 tc)) (hb : PSs X body (upD X.K H0 O0 tb)) : PS X (.While c body [] pos) (upD X.K H0 O0 (dWhile tc tb)) :=
  (ps_while hp hc hb).imp fun D σ H ⟨O, δ, E, w, ⟨W, ⟨m0, w0⟩, st⟩, k1, k2, k3, k4⟩ => by
    refine ⟨fun m σ' H' => ∃ O' δ', Wd X.K H0 O0 H' O' σ' δ' ∧ Step H H' O O' ∧ W m δ', ⟨m0, O, δ, w, Step.refl _ _, w0⟩, fun m σ1 H1 ⟨O1, δ1, w1, S1, q1⟩ => ⟨O1, δ1, _, w1, st m δ1 q1, fun b H2 q2 s2 => ?_⟩⟩
    cases b with
    | false =>
      rw [if_neg (by simp)] at q2 ⊢
      exact k1 O1 δ1 σ1 H2 q2 (w1.mono s2) (S1.trans (.same s2))
    | true =>
      rw [if_pos rfl] at q2 ⊢
      refine ⟨fun σ' H' => ∃ O' δ' m', m' < m ∧ Wd X.K H0 O0 H' O' σ' δ' ∧ Step H H' O O' ∧ W m' δ', fun σ' H' ⟨O', δ', m', lt, w', S', q'⟩ => ⟨m', lt, O', δ', w', S', q'⟩, O1, δ1, _, w1.mono s2, q2, ?_, k2, ?_, ?_⟩
      · rintro O' δ' σ' H' ⟨m', lt, q'⟩ w' S'
        exact ⟨O', δ', m', lt, w', S1.trans ((Step.same s2).trans S'), q'⟩
      · intro O' δ' σ' H' q' w' S'
        exact k1 O' δ' σ' H' q' w' (S1.trans ((Step.same s2).trans S'))
      · rintro O' δ' σ' H' ⟨m', lt, q'⟩ w' S'
        exact ⟨O', δ', m', lt, w', S1.trans ((Step.same s2).trans S'), q'⟩
/-! a dict becomes data -/
theorem KDt.vals {K : PySem.W.Frag} {H : Hp} {O : Ex} {kv : List (Key × V)} {kd : List (Key × PyData)} (h : KDt K H O kv kd) : Dts K H O (kv.map (·.2)) (kd.map (·.2)) := by
  induction h with
  | nil => exact .nil
  | cons a _ ih => exact .cons a ih
abbrev dicD (ks : List Str) (ds : List PyData) : PyData := dicP (ks.map .str) ds
def dFrzK (i : Nat) (t : DS) : DS := fun E δ => ∃ kd, δ[i]? = some (some (.k kd)) ∧ ∃ ks : List Str, kd.map (·.1) = ks.map Sum.inr ∧ t E (δ.set i (some (.v (dicD ks (kd.map (·.2))))))
theorem ds_frzK (i : Nat) {st : Stmt} {t : DS} (h : PS X st (upD X.K H0 O0 t)) : PS X st (upD X.K H0 O0 (dFrzK i t)) :=
  h.imp fun D σ H ⟨O, δ, E, w, ⟨kd, e, ks, ek, q⟩, k1, k2, k3, k4⟩ => by
    obtain ⟨l, kv, h, a, b, c, r⟩ := w.ownK e
    obtain ⟨O', w', S⟩ := w.letbe (y0 := .k kd) (d := dicD ks (kd.map (·.2))) e trivial h fun O' S n => .dic c (by rw [r.keys]; exact ek) rfl n (r.vals.step S)
    exact ⟨O', _, E, w', q, fun O2 δ2 σ2 H2 z2 w2 S2 => k1 O2 δ2 σ2 H2 z2 w2 (S.trans S2), k2, fun O2 δ2 σ2 H2 z2 w2 S2 => k3 O2 δ2 σ2 H2 z2 w2 (S.trans S2), fun O2 δ2 σ2 H2 z2 w2 S2 => k4 O2 δ2 σ2 H2 z2 w2 (S.trans S2)⟩
theorem strs_inj : ∀ {a b : List Str}, a.map PyData.str = b.map PyData.str → a = b
  | [], [], _ => rfl
  | [], _ :: _, h => by cases h
  | _ :: _, [], h => by cases h
  | x :: a, y :: b, h => by
    simp only [List.map_cons, List.cons.injEq, PyData.str.injEq] at h
    rw [h.1, strs_inj h.2]
/-- the value at a key -/
def atS : List Str → List PyData → Str → Option PyData
  | k :: ks, d :: ds, z => if k = z then some d else atS ks ds z
  | _, _, _ => none
theorem atS_dt {K : PySem.W.Frag} {H : Hp} {O : Ex} {z : Str} {d : PyData} : ∀ {kv : List (Key × V)} {ks : List Str} {ds : List PyData}, kv.map (·.1) = ks.map Sum.inr → Dts K H O (kv.map (·.2)) ds → atS ks ds z = some d → ∃ v, valV kv (.inr z) = some v ∧ Dt K H O v d
  | [], [], ds, _, _, e => by unfold atS at e; cases e
  | [], _ :: _, ds, h, _, _ => by cases h
  | _ :: _, [], ds, h, _, _ => by cases h
  | p :: kv, k :: ks, ds, h, hd, e => by
    rw [List.map_cons] at hd
    cases hd with
    | cons h1 h2 =>
      simp only [List.map_cons, List.cons.injEq] at h
      obtain ⟨p1, p2⟩ := p
      obtain ⟨rfl, h⟩ := h
      unfold atS at e
      by_cases hk : k = z
      · rw [if_pos hk] at e; cases e
        exact ⟨p2, valV_pos (by rw [hk]), h1⟩
      · rw [if_neg hk] at e
        obtain ⟨v, a, b⟩ := atS_dt h h2 e
        exact ⟨v, by rw [valV_neg (fun q => hk (key_r.mp q))]; exact a, b⟩
def dGetD (to tk : DT) : DT := fun δ Q => to δ fun x => ∃ ks ds, x = dicD ks ds ∧ tk δ fun y => ∃ z, y = .str z ∧ ∃ d, atS ks ds z = some d ∧ Q d
theorem de_getD {o e : Expr} {to tk : DT} {pos : Pos} (hu : X.A.units + 64 < cLine) (ho : DE X H0 O0 o to) (he : DE X H0 O0 e tk) (hs : NoSl e) : DE X H0 O0 (.Subscript o e pos) (dGetD to tk) :=
  (pe_dget (by omega) ho he hs).imp fun σ H Q ⟨O, δ, Qd, w, q, k⟩ => by
    refine ⟨O, δ, _, w, q, fun x vx H1 ⟨ks, ds, ex, q1⟩ s1 r1 => ?_⟩
    subst ex
    refine ⟨O, δ, _, w.mono s1, q1, fun y vy H2 ⟨z, ey, d, ed, q2⟩ s2 r2 => ?_⟩
    subst ey
    cases r2
    cases r1 with
    | @dic a kv ks' kp ds h e1 e2 n rr =>
      have ek : ks' = ks := by
        have : ks'.map PyData.str = ks.map PyData.str := e2.symm
        exact strs_inj this
      subst ek
      obtain ⟨v, hv, dv⟩ := atS_dt e1 rr ed
      exact ⟨a, v, rfl, by rw [← hv]; exact DGet.k (k := .inr z) (s2 _ _ h), k _ _ _ q2 (s1.trans s2) (dv.mono s2)⟩
end
end L2

namespace L2
open PySem PySem.Spec PyProof.Rows PySem.W PySem.Calls
/-! x.index(text) -/
def isTx (z : Str) : Value → Bool
  | .str y _ => y == z
  | _ => false
theorem vals_strAt : ∀ {ss : List Str} {us : List Value} {i : Nat} {u : Value}, Vals (ss.map V.str) us → us[i]? = some u → ∃ y t, ss[i]? = some y ∧ u = .str y t := by
  intro ss us i u hv e
  obtain ⟨x, ex, rx⟩ := vals_get hv e
  rw [List.getElem?_map] at ex
  cases hy : ss[i]? with
  | none => rw [hy] at ex; cases ex
  | some y =>
    rw [hy] at ex; cases ex
    obtain ⟨t, rfl⟩ := rx
    exact ⟨y, t, rfl, rfl⟩
theorem idxOf_ne {z : Str} : ∀ {ss : List Str} {j : Nat}, j < ss.idxOf z → ∀ y, ss[j]? = some y → (y == z) = false
  | [], j, h, y, e => by simp at e
  | a :: ss, j, h, y, e => by
    rw [List.idxOf_cons] at h
    by_cases ha : (a == z) = true
    · rw [ha] at h; simp at h
    · rw [Bool.not_eq_true] at ha
      rw [ha] at h
      cases j with
      | zero => simp at e; subst e; exact ha
      | succ j => exact idxOf_ne (ss := ss) (j := j) (by simpa using h) y (by simpa using e)
theorem mt_indexS {X : Cx} : MtM X "list.index" (fun x xs H Q => ∃ (a : Addr) (ss : List Str) (z : Str), x = .ref a ∧ xs = [.str z] ∧ SqL X.K H a (ss.map V.str) ∧ z ∈ ss ∧ Q (.int (ss.idxOf z : Nat)) H) := by
  intro pins s σ H x xs v us Q I rx rv h
  obtain ⟨a, ss, z, rfl, rfl, hq, hz, q⟩ := h
  obtain ⟨u, rfl, ru⟩ := rv.one
  obtain ⟨tz, rfl⟩ := ru
  cases rx
  obtain ⟨its, ri, pl, hs⟩ := I.list hq
  obtain ⟨⟨cls, dd, data, sl⟩, ho, hc, n, hd⟩ := pl.isList
  simp only at hc hd
  subst hc hd
  have hlen := ri.length
  rw [List.length_map] at hlen
  have hsl : sizeLine = 16777216 := sizeLine_eq
  have hj : ss.idxOf z < ss.length := List.idxOf_lt_length_iff.mpr hz
  refine call_meets PySem.F.slot_list_index ⟨_, ho, rfl⟩ PySem.F.entry_list_index (PySem.F.args_list_index_2 _ _)
    (PySem.SeqAt.list_indexAt a its.toArray n dd sl (.str z tz) (isTx z) (ss.idxOf z) (by simp; omega) (by rw [List.length_map] at hs; omega) ?_ ?_) ⟨ho, fun y hy => ?_, .int _, H, I.tok _, ⟨_, rfl⟩, q⟩
  · obtain ⟨y, t, e1, e2⟩ := vals_strAt (i := ss.idxOf z) ri (show its[ss.idxOf z]? = some (its[ss.idxOf z]'(by omega)) by simp)
    show isTx z (its[ss.idxOf z]'(by omega)) = true
    rw [e2]
    rw [List.getElem?_eq_getElem hj] at e1
    cases e1
    show (ss[ss.idxOf z] == z) = true
    rw [List.getElem_idxOf hj]; exact beq_self_eq_true z
  · intro m hm hlt
    have hm' : m < its.length := by simpa using hm
    obtain ⟨y, t, e1, e2⟩ := vals_strAt (i := m) ri (show its[m]? = some (its[m]'hm') by simp)
    show isTx z (its[m]'hm') = false
    rw [e2]
    exact idxOf_ne hlt y e1
  · have hy' : y ∈ its := by simpa using hy
    obtain ⟨m, hm, rfl⟩ := List.getElem_of_mem hy'
    obtain ⟨y, t, e1, e2⟩ := vals_strAt (i := m) ri (show its[m]? = some (its[m]'hm) by simp)
    rw [e2]
    exact PySem.SeqAt.EqAt.str_str y t z tz
section
variable {X : Cx} {H0 : Hp} {O0 : Ex}
def dIndex (to t : DT) : DT := fun δ Q => to δ fun x => ∃ ss : List Str, x = .list (ss.map .str) ∧ t δ fun y => ∃ z, y = .str z ∧ z ∈ ss ∧ Q (.int (ss.idxOf z : Nat))
theorem de_index {o e : Expr} {to t : DT} {apos cpos : Pos} (ho : DE X H0 O0 o to) (ha : DE X H0 O0 e t) (hbase : attributeBase o "index" X.env (eval o X.env) = eval o X.env := by rfl)
    (hfew : ((backTo cpos (starEach [e] X.env)).all (fun x => !x.1) && (backToKw cpos (keywordEach [] X.env)).all (fun x => x.1.isSome) && decide ([e].length + ([] : List Keyword).length + (if ([] : List Keyword).isEmpty then 0 else 1) < 30)) = true := by rfl)
    (hline : (apos.endLine == cpos.line) = true := by rfl) (hst : starEach [e] X.env = (false, eval e X.env) :: starEach [] X.env := by rfl) (hplain : (backTo cpos (starEach [] X.env)).any (·.1) = false := by rfl) :
    DE X H0 O0 (.Call (.Attribute o "index" apos) [e] [] cpos) (dIndex to t) :=
  (pe_bm PySem.F.plainAttrs_list PySem.F.slot_list_index PySem.F.type_list_index mt_indexS ho (pa_cons ha pa_nil hst) hbase hfew hline hst hplain).imp fun σ H Q ⟨O, δ, Qd, w, q, k⟩ => ⟨O, δ, _, w, q, fun x v H1 ⟨ss, e, q1⟩ s1 r1 => by
    subst e
    obtain ⟨a, us, rfl, h1, d1⟩ := (Sh.dt r1).lst
    refine ⟨.inl ⟨rfl, us, h1⟩, O, δ, _, w.mono s1, q1, fun y u H2 ⟨z, ey, hz, q2⟩ s2 r2 => ?_⟩
    subst ey
    cases r2
    obtain ⟨a', us', ea, h2, d2⟩ := (Sh.dt (r1.mono s2)).lst
    cases ea
    cases d2.strs
    exact ⟨a, ss, z, rfl, rfl, h2, hz, k _ _ H2 q2 (s1.trans s2) (.int _)⟩⟩
end
/-! list(range(0, n, k)) -/
def HOrg (l : Addr) (a b c : Int) : HO := .ext fun h => ∃ t u v, IsRange h l a b c t u v
theorem call_range3x {X : Cx} : CallR X (.type "range") (fun xs H Q => ∃ a b c : Int, xs = [.int a, .int b, .int c] ∧ 0 < c ∧ 0 ≤ b - a ∧ b - a < 2 ^ 30 ∧ c < 2 ^ 30 ∧ ∀ l, H l = none → Q (.ref l) (upd H l (HOrg l a b c))) := by
  intro pins s σ H xs us Q I r h
  obtain ⟨a, b, c, rfl, hc, h1, h2, h3, q⟩ := h
  cases r with
  | cons x1 r => cases r with
    | cons x2 r => cases r with
      | cons x3 r =>
        cases r
        obtain ⟨t, rfl⟩ := x1
        obtain ⟨u, rfl⟩ := x2
        obtain ⟨v, rfl⟩ := x3
        refine call_range_3 (by omega) ?_ (Or.inl (PyProof.noPylong_small (by omega)))
        refine ⟨.ref _, _, I.laid (t' := s.toks) (o := HOrg s.heap.objs.size a b c) (fun b u z => Heap.get?_push_of_some _ z) (Nat.le_refl _) ?_, rfl, q _ (I.hok.fresh (Nat.le_refl _))⟩
        have g := IsRange.new s.heap a b c t u v
        exact ⟨⟨t, u, v, g⟩, ⟨_, g⟩, fun h1 h2 ⟨t, u, v, x⟩ k => ⟨t, u, v, k _ x⟩⟩
theorem vals_ofItems {a c : Int} {acc : Array Value} {n : Nat} (h : ItemsOf (fun i v => ∃ t, v = .int (a + i * c) t) acc n) : Vals (((List.range n).map fun i : Nat => a + (i : Int) * c).map V.int) acc.toList := by
  have key : ∀ (l : List Value) (k : Nat), (∀ (j : Nat) (v : Value), l[j]? = some v → ∃ t, v = Value.int (a + ((k + j : Nat) : Int) * c) t) → Vals (((List.range' k l.length).map fun i : Nat => a + (i : Int) * c).map V.int) l := by
    intro l
    induction l with
    | nil => intro k _; exact .nil
    | cons x l ih =>
      intro k hk
      rw [List.length_cons, List.range'_succ, List.map_cons, List.map_cons]
      refine .cons (hk 0 x rfl) (ih (k + 1) fun j v e => ?_)
      have := hk (j + 1) v (by simpa using e)
      rw [show k + 1 + j = k + (j + 1) by omega]; exact this
  have := key acc.toList 0 fun j v e => by
    have := h.2 j v (by simpa using e)
    simpa using this
  rw [Array.length_toList, h.1] at this
  rw [List.range_eq_range']
  exact this
theorem call_listRg {X : Cx} : CallR X (.type "list") (fun xs H Q => X.calm = true ∧ ∃ (l : Addr) (a b c : Int) (n : Nat), xs = [.ref l] ∧ H l = some (HOrg l a b c) ∧ Builtin.Range.small a b c = true ∧ Builtin.Range.rangeSize a b c = n ∧ n ≤ 2 ^ 20 ∧ ∀ p, H p = none → Q (.ref p) (upd H p (.lst (((List.range n).map fun i : Nat => a + (i : Int) * c).map V.int)))) := by
  intro pins s σ H xs us Q I r h
  obtain ⟨hc, l, a, b, c, n, rfl, hq, hs, hn, hb, q⟩ := h
  obtain ⟨u, rfl, rx⟩ := vals1 r
  cases rx
  have hsl : sizeLine = 16777216 := sizeLine_eq
  obtain ⟨⟨t, u, v, hr⟩, _⟩ := I.hok l _ hq
  refine call_list_range (I.ok.hd hc) hr hs hn (by omega) fun h' tk acc' c' k' g it => ?_
  refine ⟨.ref _, _, I.laid (t' := tk) (o := .lst (((List.range n).map fun i : Nat => a + (i : Int) * c).map V.int)) k' (Nat.le_refl _) ?_, rfl, q _ (I.hok.fresh (Nat.le_refl _))⟩
  exact ⟨by simp; omega, _, c', vals_ofItems it, g⟩
section
variable {X : Cx} {H0 : Hp} {O0 : Ex}
def dListRg (t : DA) : DA := fun δ Q => t δ fun ds => ∃ n k : Int, ds = [.int 0, .int n, .int k] ∧ 0 ≤ n ∧ n < 1000 ∧ 0 < k ∧ k < 1000 ∧ ∀ js : List Int, (∀ j ∈ js, 0 ≤ j ∧ j < n) → js.length ≤ 1000 → Q (js.map .int)
theorem Dts.ofInts {K : PySem.W.Frag} {H : Hp} {O : Ex} : ∀ (ns : List Int), Dts K H O (ns.map V.int) (ns.map PyData.int)
  | [] => .nil
  | n :: ns => .cons (.int n) (Dts.ofInts ns)
theorem fe_listRg {a b c : Expr} {t : DA} {np p np' p' : Pos} (hc : X.calm = true) (hg : Gl X "list") (hm : X.mg "list" = none) (hv : bootBuiltins "list" = some (.type "list")) (hg' : Gl X "range") (hm' : X.mg "range" = none) (ha : PA X [a, b, c] (upB X.K H0 O0 t))
    (he : starEach [a, b, c] X.env = (false, eval a X.env) :: starEach [b, c] X.env := by rfl) (hpl : (backTo p' (starEach [b, c] X.env)).any (·.1) = false := by rfl)
    (he' : starEach [.Call (.Name "range" np') [a, b, c] [] p'] X.env = (false, eval (.Call (.Name "range" np') [a, b, c] [] p') X.env) :: starEach [] X.env := by rfl) (hpl' : (backTo p (starEach [] X.env)).any (·.1) = false := by rfl) :
    FE X H0 O0 (.Call (.Name "list" np) [.Call (.Name "range" np') [a, b, c] [] p'] [] p) (dListRg t) :=
  (pe_callTy call_listRg hg hm hv (pa_cons (pe_callTy call_range3x hg' hm' boot_range ha (he := he) (hpl := hpl)) pa_nil he') (he := he') (hpl := hpl')).imp fun σ H Q ⟨O, δ, Qd, w, q, k⟩ => ⟨O, δ, _, w, q, fun ds vs H1 ⟨n, st, e, n0, n1, k0, k1, q1⟩ s1 r1 => by
    subst e
    cases r1 with
    | cons x1 r => cases r with
      | cons x2 r => cases r with
        | cons x3 r =>
          cases r
          cases x1.int
          cases x2.int
          cases x3.int
          refine ⟨0, n, st, rfl, k0, by omega, by omega, by omega, fun l hl => ?_⟩
          have hsz : Builtin.Range.rangeSize 0 n st = (((if 0 < n then (n - 1) / st + 1 else 0) : Int).toNat : Int) := by
            unfold Builtin.Range.rangeSize
            rw [if_pos k0, Int.sub_zero]
            split
            · have := Int.ediv_nonneg (a := n - 1) (b := st) (by omega) (by omega); omega
            · rfl
          have hbd : ((if 0 < n then (n - 1) / st + 1 else 0) : Int).toNat ≤ 1000 := by
            split
            · have := Int.ediv_le_self (a := n - 1) st (by omega); omega
            · simp
          refine ⟨hc, l, 0, n, st, _, rfl, upd_same, ?_, hsz, by omega, fun l2 hl2 => ?_⟩
          · unfold Builtin.Range.small
            simp only [hsz]
            generalize ((if 0 < n then (n - 1) / st + 1 else 0) : Int).toNat = m at *
            have p63 : (2 : Int) ^ 63 = 9223372036854775808 := by decide
            have f1 : Builtin.Range.rangeFitsLong 0 = true := by decide
            have f2 : Builtin.Range.rangeFitsLong n = true := by unfold Builtin.Range.rangeFitsLong; rw [p63]; simp; omega
            have f3 : Builtin.Range.rangeFitsLong st = true := by unfold Builtin.Range.rangeFitsLong; rw [p63]; simp; omega
            have f4 : Builtin.Range.rangeFitsLong (m : Int) = true := by unfold Builtin.Range.rangeFitsLong; rw [p63]; simp; omega
            have f5 : Builtin.Range.rangeFitsLong (n + (st - 1)) = true := by unfold Builtin.Range.rangeFitsLong; rw [p63]; simp; omega
            rw [f1, f2, f3, f4, if_pos k0, f5]; simp
          · refine k _ _ _ _ (q1 ((List.range _).map fun i : Nat => 0 + (i : Int) * st) (fun j hj => ?_) (by simpa using hbd)) (s1.trans (Same.new hl)) hl2 (Dts.ofInts _)
            obtain ⟨i, hi, rfl⟩ := List.mem_map.mp hj
            rw [List.mem_range] at hi
            split at hi
            · rename_i hn
              have hi' : (i : Int) ≤ (n - 1) / st := by omega
              have h2 := (Int.le_ediv_iff_mul_le k0).mp hi'
              have h3 : 0 ≤ (i : Int) * st := Int.mul_nonneg (by omega) (by omega)
              omega
            · simp at hi⟩
/-! a comprehension over a list or a tuple -/
def dCompV (t : DT) (g : DG) (tc : DB) (te : DT) (k : Nat) (fr : List Nat) : DA := fun δ Q => dCompI t g tc te k fr δ Q ∨ dCompTI t g tc te k fr δ Q
theorem fe_compV {N' : List Str} {k : Nat} {fr : List Nat} {scope : Scope} {iter elt tg : Expr} {ifs : List Expr} {t te : DT} {tc : DB} {g : TG} {dg : DG} {pos : Pos} (hc : X.calm = true) (S : CompScope X.env.scope X.N N' k fr scope) (hi : DF X H0 O0 iter t) (gd : GD X.K g dg) (hk : KeepG g k) (hfr : fr.Nodup)
    (hg : ∀ fp C s H, PG (compCx X scope N' fp C s H) tg g) (hf : ∀ fp C s H, PIfs (compCx X scope N' fp C s H) ifs (upT X.K H0 O0 tc)) (he : ∀ fp C s H, PE (compCx X scope N' fp C s H) elt (up X.K H0 O0 te))
    (hs : ∀ x, foldedSetIterable iter X.env x = pure x := by intro _; rfl) : FE X H0 O0 (.ListComp elt [⟨tg, iter, ifs, 0⟩] scope pos) (dCompV t dg tc te k fr) := by
  intro pins s σ H Q I h
  obtain ⟨O, δ, Qd, w, q, kk⟩ := h
  rcases q with q | q
  · exact fe_compI hc S hi gd hk hfr hg hf he hs pins s σ H Q I ⟨O, δ, Qd, w, q, kk⟩
  · exact fe_compTI hc S hi gd hk hfr hg hf he hs pins s σ H Q I ⟨O, δ, Qd, w, q, kk⟩
end
theorem keep_set2 {fr : List Nat} {σ : St} {v u : Option V} : Keep (st0 2 fr σ) (((st0 2 fr σ).set 0 v).set 1 u) := by
  refine ⟨by simp, fun i w h => ?_⟩
  match i with
  | 0 => simp [st0, List.replicate] at h
  | 1 => simp [st0, List.replicate] at h
  | i + 2 => simpa [st0, List.replicate] using h
theorem keepTup {K : PySem.W.Frag} {n : Nat} : KeepG (gTup K n (gCons (gName 0) (gCons (gName 1) gNil))) 2 := fun fr σ v H' R ⟨a, xs, e, h1, h2, x, r, e1, y, r2, e2, e3, h⟩ => ⟨a, xs, e, h1, h2, x, r, e1, y, r2, e2, e3, keep_set2, h⟩
section
variable {X : Cx} {H0 : Hp} {O0 : Ex}
theorem de_isinC {T : String} {a c : Expr} {t : DT} {np p : Pos} {K' : PySem.W.Frag} (hK : X.K = K') (hg : Gl X "isinstance") (hm : X.mg "isinstance" = none) (hv : bootBuiltins "isinstance" = some (.builtin "isinstance")) (ha : DF X H0 O0 a t) (hc : PE X c (tC (.ty T)))
    (hs : starEach [a, c] X.env = (false, eval a X.env) :: starEach [c] X.env := by rfl) (hs2 : starEach [c] X.env = [(false, eval c X.env)] := by rfl) (hb : (backTo p (starEach [c] X.env)).any (·.1) = false := by rfl) : DE X H0 O0 (.Call (.Name "isinstance" np) [a, c] [] p) (dIsin K' T t) := by
  subst hK
  exact de_isin hg hm hv ha hc hs hs2 hb
end
/-! t + u, either may be empty -/
def rCatX (K : PySem.W.Frag) : R2 := fun x y H Q => ∃ a b xs ys, x = .ref a ∧ y = .ref b ∧ SqT K H a xs ∧ SqT K H b ys ∧ xs.length + ys.length ≤ sizeLine ∧ (xs = [] → Q (.ref b) H) ∧ (xs ≠ [] → rCatT K x y H Q)
theorem op_catX {X : Cx} : OpR X (binaryOp .Add) (rCatX X.K) := by
  intro pins s σ H x y v u Q I rx ry h
  obtain ⟨a, b, xs, ys, rfl, rfl, ha, hb, hz, q0, q1⟩ := h
  by_cases hx : xs = []
  · subst hx
    cases rx
    cases ry
    obtain ⟨its, r1, ⟨⟨c1, d1, da1, s1⟩, o1, k1, n1, e1⟩, _⟩ := I.tuple ha
    obtain ⟨its2, r2, ⟨⟨c2, d2, da2, s2⟩, o2, k2, n2, e2⟩, _⟩ := I.tuple hb
    simp only at k1 e1 k2 e2
    subst k1 e1 k2 e2
    cases r1
    exact concat_meets ⟨_, o1, rfl⟩ ⟨_, o2, rfl⟩ noFill_tuple_add seq_tuple_add PySem.F.slot_tuple_add PySem.F.entry_tuple_add (PySem.F.args_tuple_add_2 _ _)
      (tuple_addW0 a b _ its2.toArray n1 n2 d1 d2 s1 s2 (by simp)) ⟨o1, o2, .ref b, H, I, rfl, q0 rfl⟩
  · exact op_catT pins s σ H _ _ v u Q I rx ry (q1 hx)
def dCatX : PyData → PyData → (PyData → Prop) → Prop := fun x y Q => ∃ xs ys, x = .tuple xs ∧ y = .tuple ys ∧ xs.length + ys.length ≤ sizeLine ∧ Q (.tuple (xs ++ ys))
theorem od_catX {K : PySem.W.Frag} : OpD K (rCatX K) dCatX := fun H O x y dx dy Qd R tr hx hy ⟨xs, ys, e1, e2, hz, q⟩ k => by
  subst e1 e2
  have hx0 := hx
  have hy0 := hy
  obtain ⟨a, vs, rfl, h1, d1⟩ := hx.tup
  obtain ⟨b, us, rfl, h2, d2⟩ := hy.tup
  refine ⟨a, b, vs, us, rfl, rfl, h1, h2, by rw [d1.length, d2.length]; exact hz, fun z => ?_, fun z => ?_⟩
  · subst z
    cases d1
    rw [List.nil_append] at q
    cases hy0 with
    | dt hy0 => exact k _ _ H q (Same.refl _) hy0
  · exact od_catT H O _ _ _ _ Qd R tr hx0 hy0 ⟨xs, ys, rfl, rfl, fun e => z (by subst e; cases d1; rfl), hz, q⟩ k
end L2

namespace K10
open PySem L2
def top (i : Nat) : Stmt := PySem.Challenge.pw_goneday_k10_whole_webs_without_rings.main.body.getD i (.Pass ⟨0, 0, 0, 0⟩)
abbrev s_place_of : Stmt := top 4
abbrev s_comings : Stmt := top 5
abbrev s_coming_of : Stmt := top 6
abbrev s_papers : Stmt := top 7
abbrev s_maker_comings : Stmt := top 8
abbrev s_makers : Stmt := top 9
abbrev s_made_of : Stmt := top 10
abbrev s__law_cell : Stmt := top 12
abbrev s__law_numbers : Stmt := top 13
abbrev s__law_names : Stmt := top 14
abbrev s__law_told : Stmt := top 15
abbrev s__law_drawn : Stmt := top 16
abbrev s__law_row : Stmt := top 17
abbrev s__law_order : Stmt := top 18
abbrev s__law_makers : Stmt := top 19
abbrev s__law_back : Stmt := top 20
abbrev s__law_right : Stmt := top 21
abbrev s__law_one_more : Stmt := top 22
abbrev s_law : Stmt := top 23
structure Adr where
  a_place_of : Addr
  d_place_of : FuncData
  a_comings : Addr
  d_comings : FuncData
  a_coming_of : Addr
  d_coming_of : FuncData
  a_papers : Addr
  d_papers : FuncData
  a_maker_comings : Addr
  d_maker_comings : FuncData
  a_makers : Addr
  d_makers : FuncData
  a_made_of : Addr
  d_made_of : FuncData
  a__law_cell : Addr
  d__law_cell : FuncData
  a__law_numbers : Addr
  d__law_numbers : FuncData
  a__law_names : Addr
  d__law_names : FuncData
  a__law_told : Addr
  d__law_told : FuncData
  a__law_drawn : Addr
  d__law_drawn : FuncData
  a__law_row : Addr
  d__law_row : FuncData
  a__law_order : Addr
  d__law_order : FuncData
  a__law_makers : Addr
  d__law_makers : FuncData
  a__law_back : Addr
  d__law_back : FuncData
  a__law_right : Addr
  d__law_right : FuncData
  a__law_one_more : Addr
  d__law_one_more : FuncData
  a_law : Addr
  d_law : FuncData
  u_NoPaper : Addr
structure Txt (K : PySem.W.Frag) (mg : Str → Option Value) (t : Adr) : Prop where
  F_place_of : Fun K "place_of" "place_of" s_place_of t.a_place_of t.d_place_of
  m_place_of : mg "place_of" = some (.ref t.a_place_of)
  b_place_of : Binds K t.d_place_of ["deed"] []
  F_comings : Fun K "comings" "comings" s_comings t.a_comings t.d_comings
  m_comings : mg "comings" = some (.ref t.a_comings)
  b_comings : Binds K t.d_comings ["deeds"] []
  F_coming_of : Fun K "coming_of" "coming_of" s_coming_of t.a_coming_of t.d_coming_of
  m_coming_of : mg "coming_of" = some (.ref t.a_coming_of)
  b_coming_of : Binds K t.d_coming_of ["deeds", "paper"] []
  F_papers : Fun K "papers" "papers" s_papers t.a_papers t.d_papers
  m_papers : mg "papers" = some (.ref t.a_papers)
  b_papers : Binds K t.d_papers ["deeds"] []
  F_maker_comings : Fun K "maker_comings" "maker_comings" s_maker_comings t.a_maker_comings t.d_maker_comings
  m_maker_comings : mg "maker_comings" = some (.ref t.a_maker_comings)
  b_maker_comings : Binds K t.d_maker_comings ["deeds", "coming"] []
  F_makers : Fun K "makers" "makers" s_makers t.a_makers t.d_makers
  m_makers : mg "makers" = some (.ref t.a_makers)
  b_makers : Binds K t.d_makers ["deeds", "paper"] []
  F_made_of : Fun K "made_of" "made_of" s_made_of t.a_made_of t.d_made_of
  m_made_of : mg "made_of" = some (.ref t.a_made_of)
  b_made_of : Binds K t.d_made_of ["deeds", "paper"] []
  F__law_cell : Fun K "_law_cell" "_law_cell" s__law_cell t.a__law_cell t.d__law_cell
  m__law_cell : mg "_law_cell" = some (.ref t.a__law_cell)
  b__law_cell : Binds K t.d__law_cell ["_law_script", "_law_k"] []
  F__law_numbers : Fun K "_law_numbers" "_law_numbers" s__law_numbers t.a__law_numbers t.d__law_numbers
  m__law_numbers : mg "_law_numbers" = some (.ref t.a__law_numbers)
  b__law_numbers : Binds K t.d__law_numbers ["_law_cell_here", "_law_many"] []
  F__law_names : Fun K "_law_names" "_law_names" s__law_names t.a__law_names t.d__law_names
  m__law_names : mg "_law_names" = some (.ref t.a__law_names)
  b__law_names : Binds K t.d__law_names ["_law_xs", "_law_many"] []
  F__law_told : Fun K "_law_told" "_law_told" s__law_told t.a__law_told t.d__law_told
  m__law_told : mg "_law_told" = some (.ref t.a__law_told)
  b__law_told : Binds K t.d__law_told ["_law_xs", "_law_names_here", "_law_k", "_law_web"] []
  F__law_drawn : Fun K "_law_drawn" "_law_drawn" s__law_drawn t.a__law_drawn t.d__law_drawn
  m__law_drawn : mg "_law_drawn" = some (.ref t.a__law_drawn)
  b__law_drawn : Binds K t.d__law_drawn ["_law_script"] []
  F__law_row : Fun K "_law_row" "_law_row" s__law_row t.a__law_row t.d__law_row
  m__law_row : mg "_law_row" = some (.ref t.a__law_row)
  b__law_row : Binds K t.d__law_row ["_law_deeds", "_law_name"] []
  F__law_order : Fun K "_law_order" "_law_order" s__law_order t.a__law_order t.d__law_order
  m__law_order : mg "_law_order" = some (.ref t.a__law_order)
  b__law_order : Binds K t.d__law_order ["_law_deeds"] []
  F__law_makers : Fun K "_law_makers" "_law_makers" s__law_makers t.a__law_makers t.d__law_makers
  m__law_makers : mg "_law_makers" = some (.ref t.a__law_makers)
  b__law_makers : Binds K t.d__law_makers ["_law_deeds", "_law_name"] []
  F__law_back : Fun K "_law_back" "_law_back" s__law_back t.a__law_back t.d__law_back
  m__law_back : mg "_law_back" = some (.ref t.a__law_back)
  b__law_back : Binds K t.d__law_back ["_law_near", "_law_name"] []
  F__law_right : Fun K "_law_right" "_law_right" s__law_right t.a__law_right t.d__law_right
  m__law_right : mg "_law_right" = some (.ref t.a__law_right)
  b__law_right : Binds K t.d__law_right ["_law_deeds", "_law_order_here", "_law_near"] []
  F__law_one_more : Fun K "_law_one_more" "_law_one_more" s__law_one_more t.a__law_one_more t.d__law_one_more
  m__law_one_more : mg "_law_one_more" = some (.ref t.a__law_one_more)
  b__law_one_more : Binds K t.d__law_one_more ["_law_deeds", "_law_order_here", "_law_near", "_law_xs", "_law_name"] []
  F_law : Fun K "law" "law" s_law t.a_law t.d_law
  m_law : mg "law" = some (.ref t.a_law)
  b_law : Binds K t.d_law ["_law_script"] []
  bt_law : ∀ (s : Shared) (u : Value), BindsTo s t.d_law ⟨[u], []⟩ [("_law_script", u)]
  c_NoPaper : mg "NoPaper" = some (.ref t.u_NoPaper)
  n_abs : mg "abs" = none
  n_all : mg "all" = none
  n_any : mg "any" = none
  n_int : mg "int" = none
  n_isinstance : mg "isinstance" = none
  n_len : mg "len" = none
  n_list : mg "list" = none
  n_max : mg "max" = none
  n_range : mg "range" = none
  n_set : mg "set" = none
  n_sorted : mg "sorted" = none
  n_str : mg "str" = none
  n_tuple : mg "tuple" = none
theorem sc_place_of : FnScope ["deed"] ["deed"] (defScope s_place_of) := ⟨rfl, rfl, rfl, by decide +kernel, rfl, by decide +kernel, by decide +kernel⟩
theorem sc_comings : FnScope ["deeds"] ["deeds"] (defScope s_comings) := ⟨rfl, rfl, rfl, by decide +kernel, rfl, by decide +kernel, by decide +kernel⟩
theorem sc_coming_of : FnScope ["deeds", "paper", "deed"] ["deeds", "paper"] (defScope s_coming_of) := ⟨rfl, rfl, rfl, by decide +kernel, rfl, by decide +kernel, by decide +kernel⟩
theorem sc_papers : FnScope ["deeds"] ["deeds"] (defScope s_papers) := ⟨rfl, rfl, rfl, by decide +kernel, rfl, by decide +kernel, by decide +kernel⟩
theorem sc_maker_comings : FnScope ["deeds", "coming", "named"] ["deeds", "coming"] (defScope s_maker_comings) := ⟨rfl, rfl, rfl, by decide +kernel, rfl, by decide +kernel, by decide +kernel⟩
theorem sc_makers : FnScope ["deeds", "paper"] ["deeds", "paper"] (defScope s_makers) := ⟨rfl, rfl, rfl, by decide +kernel, rfl, by decide +kernel, by decide +kernel⟩
theorem sc_made_of : FnScope ["deeds", "paper", "reached", "made", "name"] ["deeds", "paper"] (defScope s_made_of) := ⟨rfl, rfl, rfl, by decide +kernel, rfl, by decide +kernel, by decide +kernel⟩
theorem sc__law_cell : FnScope ["_law_script", "_law_k", "_law_state", "_law_cell_here"] ["_law_script", "_law_k"] (defScope s__law_cell) := ⟨rfl, rfl, rfl, by decide +kernel, rfl, by decide +kernel, by decide +kernel⟩
theorem sc__law_numbers : FnScope ["_law_cell_here", "_law_many", "_law_some", "_law_state", "_law_digits", "_law_k"] ["_law_cell_here", "_law_many"] (defScope s__law_numbers) := ⟨rfl, rfl, rfl, by decide +kernel, rfl, by decide +kernel, by decide +kernel⟩
theorem sc__law_names : FnScope ["_law_xs", "_law_many", "_law_letters", "_law_stem", "_law_size", "_law_at", "_law_some", "_law_k", "_law_two"] ["_law_xs", "_law_many"] (defScope s__law_names) := ⟨rfl, rfl, rfl, by decide +kernel, rfl, by decide +kernel, by decide +kernel⟩
theorem sc__law_told : FnScope ["_law_xs", "_law_names_here", "_law_k", "_law_web", "_law_pool"] ["_law_xs", "_law_names_here", "_law_k", "_law_web"] (defScope s__law_told) := ⟨rfl, rfl, rfl, by decide +kernel, rfl, by decide +kernel, by decide +kernel⟩
theorem sc__law_drawn : FnScope ["_law_script", "_law_xs", "_law_many", "_law_names_here", "_law_web", "_law_far", "_law_some", "_law_k", "_law_ys", "_law_day", "_law_told_here", "_law_turn"] ["_law_script"] (defScope s__law_drawn) := ⟨rfl, rfl, rfl, by decide +kernel, rfl, by decide +kernel, by decide +kernel⟩
theorem sc__law_row : FnScope ["_law_deeds", "_law_name"] ["_law_deeds", "_law_name"] (defScope s__law_row) := ⟨rfl, rfl, rfl, by decide +kernel, rfl, by decide +kernel, by decide +kernel⟩
theorem sc__law_order : FnScope ["_law_deeds"] ["_law_deeds"] (defScope s__law_order) := ⟨rfl, rfl, rfl, by decide +kernel, rfl, by decide +kernel, by decide +kernel⟩
theorem sc__law_makers : FnScope ["_law_deeds", "_law_name", "_law_row_here", "_law_order_here"] ["_law_deeds", "_law_name"] (defScope s__law_makers) := ⟨rfl, rfl, rfl, by decide +kernel, rfl, by decide +kernel, by decide +kernel⟩
theorem sc__law_back : FnScope ["_law_near", "_law_name", "_law_some", "_law_at"] ["_law_near", "_law_name"] (defScope s__law_back) := ⟨rfl, rfl, rfl, by decide +kernel, rfl, by decide +kernel, by decide +kernel⟩
theorem sc__law_right : FnScope ["_law_deeds", "_law_order_here", "_law_near", "_law_back_here", "_law_name", "_law_at", "_law_told_here"] ["_law_deeds", "_law_order_here", "_law_near"] (defScope s__law_right) := ⟨rfl, rfl, rfl, by decide +kernel, rfl, by decide +kernel, by decide +kernel⟩
theorem sc__law_one_more : FnScope ["_law_deeds", "_law_order_here", "_law_near", "_law_xs", "_law_name", "_law_told_here", "_law_last", "_law_more", "_law_one", "_law_due"] ["_law_deeds", "_law_order_here", "_law_near", "_law_xs", "_law_name"] (defScope s__law_one_more) := ⟨rfl, rfl, rfl, by decide +kernel, rfl, by decide +kernel, by decide +kernel⟩
theorem sc_law : FnScope ["_law_script", "_law_names_here", "_law_deeds", "_law_order_here", "_law_near", "_law_name"] ["_law_script"] (defScope s_law) := ⟨rfl, rfl, rfl, by decide +kernel, rfl, by decide +kernel, by decide +kernel⟩
theorem txt_mk {K : PySem.W.Frag} {h : Heap} {mg : Str → Option Value} (X : K.In h) (G : h.Ns mainGlobals mg)
    {f0 f1 f2 f3 f4 f5 f6 f7 f8 f9 f10 f11 f12 f13 f14 f15 f16 f17 f18 : Addr} {od0 an0 od1 an1 od2 an2 od3 an3 od4 an4 od5 an5 od6 an6 od7 an7 od8 an8 od9 an9 od10 an10 od11 an11 od12 an12 od13 an13 od14 an14 od15 an15 od16 an16 od17 an17 od18 an18 : Option Addr} {sl0 sl1 sl2 sl3 sl4 sl5 sl6 sl7 sl8 sl9 sl10 sl11 sl12 sl13 sl14 sl15 sl16 sl17 sl18 : Array (Option Value)} {oc0 kV0 dc0 pm0 cd0 ct0 oc1 kV1 dc1 pm1 cd1 ct1 oc2 kV2 dc2 pm2 cd2 ct2 oc3 kV3 dc3 pm3 cd3 ct3 oc4 kV4 dc4 pm4 cd4 ct4 oc5 kV5 dc5 pm5 cd5 ct5 oc6 kV6 dc6 pm6 cd6 ct6 oc7 kV7 dc7 pm7 cd7 ct7 oc8 kV8 dc8 pm8 cd8 ct8 oc9 kV9 dc9 pm9 cd9 ct9 oc10 kV10 dc10 pm10 cd10 ct10 oc11 kV11 dc11 pm11 cd11 ct11 oc12 kV12 dc12 pm12 cd12 ct12 oc13 kV13 dc13 pm13 cd13 ct13 oc14 kV14 dc14 pm14 cd14 ct14 oc15 kV15 dc15 pm15 cd15 ct15 oc16 kV16 dc16 pm16 cd16 ct16 oc17 kV17 dc17 pm17 cd17 ct17 oc18 kV18 dc18 pm18 cd18 ct18 : Value}
    {u_NoPaper : Addr}
    (a0 : PySem.W.nsIn K mainGlobals "place_of" = some (some (.ref f0))) (l0 : K.lookup f0 = some ⟨oc0, od0, .func (PySem.W.fnOf "place_of" "place_of" (defArgs s_place_of) (defBody s_place_of) (defScope s_place_of) .none kV0 dc0 pm0 an0 cd0 ct0), sl0⟩) (c0 : PySem.W.codeIn K cd0 "place_of" = true) (k0 : PySem.W.keepIn K (.ref f0) = true)
    (a1 : PySem.W.nsIn K mainGlobals "comings" = some (some (.ref f1))) (l1 : K.lookup f1 = some ⟨oc1, od1, .func (PySem.W.fnOf "comings" "comings" (defArgs s_comings) (defBody s_comings) (defScope s_comings) .none kV1 dc1 pm1 an1 cd1 ct1), sl1⟩) (c1 : PySem.W.codeIn K cd1 "comings" = true) (k1 : PySem.W.keepIn K (.ref f1) = true)
    (a2 : PySem.W.nsIn K mainGlobals "coming_of" = some (some (.ref f2))) (l2 : K.lookup f2 = some ⟨oc2, od2, .func (PySem.W.fnOf "coming_of" "coming_of" (defArgs s_coming_of) (defBody s_coming_of) (defScope s_coming_of) .none kV2 dc2 pm2 an2 cd2 ct2), sl2⟩) (c2 : PySem.W.codeIn K cd2 "coming_of" = true) (k2 : PySem.W.keepIn K (.ref f2) = true)
    (a3 : PySem.W.nsIn K mainGlobals "papers" = some (some (.ref f3))) (l3 : K.lookup f3 = some ⟨oc3, od3, .func (PySem.W.fnOf "papers" "papers" (defArgs s_papers) (defBody s_papers) (defScope s_papers) .none kV3 dc3 pm3 an3 cd3 ct3), sl3⟩) (c3 : PySem.W.codeIn K cd3 "papers" = true) (k3 : PySem.W.keepIn K (.ref f3) = true)
    (a4 : PySem.W.nsIn K mainGlobals "maker_comings" = some (some (.ref f4))) (l4 : K.lookup f4 = some ⟨oc4, od4, .func (PySem.W.fnOf "maker_comings" "maker_comings" (defArgs s_maker_comings) (defBody s_maker_comings) (defScope s_maker_comings) .none kV4 dc4 pm4 an4 cd4 ct4), sl4⟩) (c4 : PySem.W.codeIn K cd4 "maker_comings" = true) (k4 : PySem.W.keepIn K (.ref f4) = true)
    (a5 : PySem.W.nsIn K mainGlobals "makers" = some (some (.ref f5))) (l5 : K.lookup f5 = some ⟨oc5, od5, .func (PySem.W.fnOf "makers" "makers" (defArgs s_makers) (defBody s_makers) (defScope s_makers) .none kV5 dc5 pm5 an5 cd5 ct5), sl5⟩) (c5 : PySem.W.codeIn K cd5 "makers" = true) (k5 : PySem.W.keepIn K (.ref f5) = true)
    (a6 : PySem.W.nsIn K mainGlobals "made_of" = some (some (.ref f6))) (l6 : K.lookup f6 = some ⟨oc6, od6, .func (PySem.W.fnOf "made_of" "made_of" (defArgs s_made_of) (defBody s_made_of) (defScope s_made_of) .none kV6 dc6 pm6 an6 cd6 ct6), sl6⟩) (c6 : PySem.W.codeIn K cd6 "made_of" = true) (k6 : PySem.W.keepIn K (.ref f6) = true)
    (a7 : PySem.W.nsIn K mainGlobals "_law_cell" = some (some (.ref f7))) (l7 : K.lookup f7 = some ⟨oc7, od7, .func (PySem.W.fnOf "_law_cell" "_law_cell" (defArgs s__law_cell) (defBody s__law_cell) (defScope s__law_cell) .none kV7 dc7 pm7 an7 cd7 ct7), sl7⟩) (c7 : PySem.W.codeIn K cd7 "_law_cell" = true) (k7 : PySem.W.keepIn K (.ref f7) = true)
    (a8 : PySem.W.nsIn K mainGlobals "_law_numbers" = some (some (.ref f8))) (l8 : K.lookup f8 = some ⟨oc8, od8, .func (PySem.W.fnOf "_law_numbers" "_law_numbers" (defArgs s__law_numbers) (defBody s__law_numbers) (defScope s__law_numbers) .none kV8 dc8 pm8 an8 cd8 ct8), sl8⟩) (c8 : PySem.W.codeIn K cd8 "_law_numbers" = true) (k8 : PySem.W.keepIn K (.ref f8) = true)
    (a9 : PySem.W.nsIn K mainGlobals "_law_names" = some (some (.ref f9))) (l9 : K.lookup f9 = some ⟨oc9, od9, .func (PySem.W.fnOf "_law_names" "_law_names" (defArgs s__law_names) (defBody s__law_names) (defScope s__law_names) .none kV9 dc9 pm9 an9 cd9 ct9), sl9⟩) (c9 : PySem.W.codeIn K cd9 "_law_names" = true) (k9 : PySem.W.keepIn K (.ref f9) = true)
    (a10 : PySem.W.nsIn K mainGlobals "_law_told" = some (some (.ref f10))) (l10 : K.lookup f10 = some ⟨oc10, od10, .func (PySem.W.fnOf "_law_told" "_law_told" (defArgs s__law_told) (defBody s__law_told) (defScope s__law_told) .none kV10 dc10 pm10 an10 cd10 ct10), sl10⟩) (c10 : PySem.W.codeIn K cd10 "_law_told" = true) (k10 : PySem.W.keepIn K (.ref f10) = true)
    (a11 : PySem.W.nsIn K mainGlobals "_law_drawn" = some (some (.ref f11))) (l11 : K.lookup f11 = some ⟨oc11, od11, .func (PySem.W.fnOf "_law_drawn" "_law_drawn" (defArgs s__law_drawn) (defBody s__law_drawn) (defScope s__law_drawn) .none kV11 dc11 pm11 an11 cd11 ct11), sl11⟩) (c11 : PySem.W.codeIn K cd11 "_law_drawn" = true) (k11 : PySem.W.keepIn K (.ref f11) = true)
    (a12 : PySem.W.nsIn K mainGlobals "_law_row" = some (some (.ref f12))) (l12 : K.lookup f12 = some ⟨oc12, od12, .func (PySem.W.fnOf "_law_row" "_law_row" (defArgs s__law_row) (defBody s__law_row) (defScope s__law_row) .none kV12 dc12 pm12 an12 cd12 ct12), sl12⟩) (c12 : PySem.W.codeIn K cd12 "_law_row" = true) (k12 : PySem.W.keepIn K (.ref f12) = true)
    (a13 : PySem.W.nsIn K mainGlobals "_law_order" = some (some (.ref f13))) (l13 : K.lookup f13 = some ⟨oc13, od13, .func (PySem.W.fnOf "_law_order" "_law_order" (defArgs s__law_order) (defBody s__law_order) (defScope s__law_order) .none kV13 dc13 pm13 an13 cd13 ct13), sl13⟩) (c13 : PySem.W.codeIn K cd13 "_law_order" = true) (k13 : PySem.W.keepIn K (.ref f13) = true)
    (a14 : PySem.W.nsIn K mainGlobals "_law_makers" = some (some (.ref f14))) (l14 : K.lookup f14 = some ⟨oc14, od14, .func (PySem.W.fnOf "_law_makers" "_law_makers" (defArgs s__law_makers) (defBody s__law_makers) (defScope s__law_makers) .none kV14 dc14 pm14 an14 cd14 ct14), sl14⟩) (c14 : PySem.W.codeIn K cd14 "_law_makers" = true) (k14 : PySem.W.keepIn K (.ref f14) = true)
    (a15 : PySem.W.nsIn K mainGlobals "_law_back" = some (some (.ref f15))) (l15 : K.lookup f15 = some ⟨oc15, od15, .func (PySem.W.fnOf "_law_back" "_law_back" (defArgs s__law_back) (defBody s__law_back) (defScope s__law_back) .none kV15 dc15 pm15 an15 cd15 ct15), sl15⟩) (c15 : PySem.W.codeIn K cd15 "_law_back" = true) (k15 : PySem.W.keepIn K (.ref f15) = true)
    (a16 : PySem.W.nsIn K mainGlobals "_law_right" = some (some (.ref f16))) (l16 : K.lookup f16 = some ⟨oc16, od16, .func (PySem.W.fnOf "_law_right" "_law_right" (defArgs s__law_right) (defBody s__law_right) (defScope s__law_right) .none kV16 dc16 pm16 an16 cd16 ct16), sl16⟩) (c16 : PySem.W.codeIn K cd16 "_law_right" = true) (k16 : PySem.W.keepIn K (.ref f16) = true)
    (a17 : PySem.W.nsIn K mainGlobals "_law_one_more" = some (some (.ref f17))) (l17 : K.lookup f17 = some ⟨oc17, od17, .func (PySem.W.fnOf "_law_one_more" "_law_one_more" (defArgs s__law_one_more) (defBody s__law_one_more) (defScope s__law_one_more) .none kV17 dc17 pm17 an17 cd17 ct17), sl17⟩) (c17 : PySem.W.codeIn K cd17 "_law_one_more" = true) (k17 : PySem.W.keepIn K (.ref f17) = true)
    (a18 : PySem.W.nsIn K mainGlobals "law" = some (some (.ref f18))) (l18 : K.lookup f18 = some ⟨oc18, od18, .func (PySem.W.fnOf "law" "law" (defArgs s_law) (defBody s_law) (defScope s_law) .none kV18 dc18 pm18 an18 cd18 ct18), sl18⟩) (c18 : PySem.W.codeIn K cd18 "law" = true) (k18 : PySem.W.keepIn K (.ref f18) = true)
    (x_NoPaper : PySem.W.nsIn K mainGlobals "NoPaper" = some (some (.ref u_NoPaper)))
    (n_abs : PySem.W.nsIn K mainGlobals "abs" = some none)
    (n_all : PySem.W.nsIn K mainGlobals "all" = some none)
    (n_any : PySem.W.nsIn K mainGlobals "any" = some none)
    (n_int : PySem.W.nsIn K mainGlobals "int" = some none)
    (n_isinstance : PySem.W.nsIn K mainGlobals "isinstance" = some none)
    (n_len : PySem.W.nsIn K mainGlobals "len" = some none)
    (n_list : PySem.W.nsIn K mainGlobals "list" = some none)
    (n_max : PySem.W.nsIn K mainGlobals "max" = some none)
    (n_range : PySem.W.nsIn K mainGlobals "range" = some none)
    (n_set : PySem.W.nsIn K mainGlobals "set" = some none)
    (n_sorted : PySem.W.nsIn K mainGlobals "sorted" = some none)
    (n_str : PySem.W.nsIn K mainGlobals "str" = some none)
    (n_tuple : PySem.W.nsIn K mainGlobals "tuple" = some none) : ∃ t : Adr, Txt K mg t := by
  have F0 := fun_mk (st := s_place_of) l0 c0 k0
  have F1 := fun_mk (st := s_comings) l1 c1 k1
  have F2 := fun_mk (st := s_coming_of) l2 c2 k2
  have F3 := fun_mk (st := s_papers) l3 c3 k3
  have F4 := fun_mk (st := s_maker_comings) l4 c4 k4
  have F5 := fun_mk (st := s_makers) l5 c5 k5
  have F6 := fun_mk (st := s_made_of) l6 c6 k6
  have F7 := fun_mk (st := s__law_cell) l7 c7 k7
  have F8 := fun_mk (st := s__law_numbers) l8 c8 k8
  have F9 := fun_mk (st := s__law_names) l9 c9 k9
  have F10 := fun_mk (st := s__law_told) l10 c10 k10
  have F11 := fun_mk (st := s__law_drawn) l11 c11 k11
  have F12 := fun_mk (st := s__law_row) l12 c12 k12
  have F13 := fun_mk (st := s__law_order) l13 c13 k13
  have F14 := fun_mk (st := s__law_makers) l14 c14 k14
  have F15 := fun_mk (st := s__law_back) l15 c15 k15
  have F16 := fun_mk (st := s__law_right) l16 c16 k16
  have F17 := fun_mk (st := s__law_one_more) l17 c17 k17
  have F18 := fun_mk (st := s_law) l18 c18 k18
  refine ⟨⟨f0, PySem.W.fnOf "place_of" "place_of" (defArgs s_place_of) (defBody s_place_of) (defScope s_place_of) .none kV0 dc0 pm0 an0 cd0 ct0, f1, PySem.W.fnOf "comings" "comings" (defArgs s_comings) (defBody s_comings) (defScope s_comings) .none kV1 dc1 pm1 an1 cd1 ct1, f2, PySem.W.fnOf "coming_of" "coming_of" (defArgs s_coming_of) (defBody s_coming_of) (defScope s_coming_of) .none kV2 dc2 pm2 an2 cd2 ct2, f3, PySem.W.fnOf "papers" "papers" (defArgs s_papers) (defBody s_papers) (defScope s_papers) .none kV3 dc3 pm3 an3 cd3 ct3, f4, PySem.W.fnOf "maker_comings" "maker_comings" (defArgs s_maker_comings) (defBody s_maker_comings) (defScope s_maker_comings) .none kV4 dc4 pm4 an4 cd4 ct4, f5, PySem.W.fnOf "makers" "makers" (defArgs s_makers) (defBody s_makers) (defScope s_makers) .none kV5 dc5 pm5 an5 cd5 ct5, f6, PySem.W.fnOf "made_of" "made_of" (defArgs s_made_of) (defBody s_made_of) (defScope s_made_of) .none kV6 dc6 pm6 an6 cd6 ct6, f7, PySem.W.fnOf "_law_cell" "_law_cell" (defArgs s__law_cell) (defBody s__law_cell) (defScope s__law_cell) .none kV7 dc7 pm7 an7 cd7 ct7, f8, PySem.W.fnOf "_law_numbers" "_law_numbers" (defArgs s__law_numbers) (defBody s__law_numbers) (defScope s__law_numbers) .none kV8 dc8 pm8 an8 cd8 ct8, f9, PySem.W.fnOf "_law_names" "_law_names" (defArgs s__law_names) (defBody s__law_names) (defScope s__law_names) .none kV9 dc9 pm9 an9 cd9 ct9, f10, PySem.W.fnOf "_law_told" "_law_told" (defArgs s__law_told) (defBody s__law_told) (defScope s__law_told) .none kV10 dc10 pm10 an10 cd10 ct10, f11, PySem.W.fnOf "_law_drawn" "_law_drawn" (defArgs s__law_drawn) (defBody s__law_drawn) (defScope s__law_drawn) .none kV11 dc11 pm11 an11 cd11 ct11, f12, PySem.W.fnOf "_law_row" "_law_row" (defArgs s__law_row) (defBody s__law_row) (defScope s__law_row) .none kV12 dc12 pm12 an12 cd12 ct12, f13, PySem.W.fnOf "_law_order" "_law_order" (defArgs s__law_order) (defBody s__law_order) (defScope s__law_order) .none kV13 dc13 pm13 an13 cd13 ct13, f14, PySem.W.fnOf "_law_makers" "_law_makers" (defArgs s__law_makers) (defBody s__law_makers) (defScope s__law_makers) .none kV14 dc14 pm14 an14 cd14 ct14, f15, PySem.W.fnOf "_law_back" "_law_back" (defArgs s__law_back) (defBody s__law_back) (defScope s__law_back) .none kV15 dc15 pm15 an15 cd15 ct15, f16, PySem.W.fnOf "_law_right" "_law_right" (defArgs s__law_right) (defBody s__law_right) (defScope s__law_right) .none kV16 dc16 pm16 an16 cd16 ct16, f17, PySem.W.fnOf "_law_one_more" "_law_one_more" (defArgs s__law_one_more) (defBody s__law_one_more) (defScope s__law_one_more) .none kV17 dc17 pm17 an17 cd17 ct17, f18, PySem.W.fnOf "law" "law" (defArgs s_law) (defBody s_law) (defScope s_law) .none kV18 dc18 pm18 an18 cd18 ct18, u_NoPaper⟩, ?_⟩
  exact ⟨(F0),
    (PySem.W.mg_of X G a0),
    (F0.binds (ps := ["deed"]) fun _ _ _ _ _ _ us hl => match us, hl with | [_], _ => rfl),
    (F1),
    (PySem.W.mg_of X G a1),
    (F1.binds (ps := ["deeds"]) fun _ _ _ _ _ _ us hl => match us, hl with | [_], _ => rfl),
    (F2),
    (PySem.W.mg_of X G a2),
    (F2.binds (ps := ["deeds", "paper"]) fun _ _ _ _ _ _ us hl => match us, hl with | [_, _], _ => rfl),
    (F3),
    (PySem.W.mg_of X G a3),
    (F3.binds (ps := ["deeds"]) fun _ _ _ _ _ _ us hl => match us, hl with | [_], _ => rfl),
    (F4),
    (PySem.W.mg_of X G a4),
    (F4.binds (ps := ["deeds", "coming"]) fun _ _ _ _ _ _ us hl => match us, hl with | [_, _], _ => rfl),
    (F5),
    (PySem.W.mg_of X G a5),
    (F5.binds (ps := ["deeds", "paper"]) fun _ _ _ _ _ _ us hl => match us, hl with | [_, _], _ => rfl),
    (F6),
    (PySem.W.mg_of X G a6),
    (F6.binds (ps := ["deeds", "paper"]) fun _ _ _ _ _ _ us hl => match us, hl with | [_, _], _ => rfl),
    (F7),
    (PySem.W.mg_of X G a7),
    (F7.binds (ps := ["_law_script", "_law_k"]) fun _ _ _ _ _ _ us hl => match us, hl with | [_, _], _ => rfl),
    (F8),
    (PySem.W.mg_of X G a8),
    (F8.binds (ps := ["_law_cell_here", "_law_many"]) fun _ _ _ _ _ _ us hl => match us, hl with | [_, _], _ => rfl),
    (F9),
    (PySem.W.mg_of X G a9),
    (F9.binds (ps := ["_law_xs", "_law_many"]) fun _ _ _ _ _ _ us hl => match us, hl with | [_, _], _ => rfl),
    (F10),
    (PySem.W.mg_of X G a10),
    (F10.binds (ps := ["_law_xs", "_law_names_here", "_law_k", "_law_web"]) fun _ _ _ _ _ _ us hl => match us, hl with | [_, _, _, _], _ => rfl),
    (F11),
    (PySem.W.mg_of X G a11),
    (F11.binds (ps := ["_law_script"]) fun _ _ _ _ _ _ us hl => match us, hl with | [_], _ => rfl),
    (F12),
    (PySem.W.mg_of X G a12),
    (F12.binds (ps := ["_law_deeds", "_law_name"]) fun _ _ _ _ _ _ us hl => match us, hl with | [_, _], _ => rfl),
    (F13),
    (PySem.W.mg_of X G a13),
    (F13.binds (ps := ["_law_deeds"]) fun _ _ _ _ _ _ us hl => match us, hl with | [_], _ => rfl),
    (F14),
    (PySem.W.mg_of X G a14),
    (F14.binds (ps := ["_law_deeds", "_law_name"]) fun _ _ _ _ _ _ us hl => match us, hl with | [_, _], _ => rfl),
    (F15),
    (PySem.W.mg_of X G a15),
    (F15.binds (ps := ["_law_near", "_law_name"]) fun _ _ _ _ _ _ us hl => match us, hl with | [_, _], _ => rfl),
    (F16),
    (PySem.W.mg_of X G a16),
    (F16.binds (ps := ["_law_deeds", "_law_order_here", "_law_near"]) fun _ _ _ _ _ _ us hl => match us, hl with | [_, _, _], _ => rfl),
    (F17),
    (PySem.W.mg_of X G a17),
    (F17.binds (ps := ["_law_deeds", "_law_order_here", "_law_near", "_law_xs", "_law_name"]) fun _ _ _ _ _ _ us hl => match us, hl with | [_, _, _, _, _], _ => rfl),
    (F18),
    (PySem.W.mg_of X G a18),
    (F18.binds (ps := ["_law_script"]) fun _ _ _ _ _ _ us hl => match us, hl with | [_], _ => rfl),
    (fun s v => .of_eq rfl),
    (PySem.W.mg_of X G x_NoPaper),
    (PySem.W.mg_none_of X G n_abs),
    (PySem.W.mg_none_of X G n_all),
    (PySem.W.mg_none_of X G n_any),
    (PySem.W.mg_none_of X G n_int),
    (PySem.W.mg_none_of X G n_isinstance),
    (PySem.W.mg_none_of X G n_len),
    (PySem.W.mg_none_of X G n_list),
    (PySem.W.mg_none_of X G n_max),
    (PySem.W.mg_none_of X G n_range),
    (PySem.W.mg_none_of X G n_set),
    (PySem.W.mg_none_of X G n_sorted),
    (PySem.W.mg_none_of X G n_str),
    (PySem.W.mg_none_of X G n_tuple)⟩
end K10

open PySem L2
namespace K10
/-- a paper's coming -/
structure Pp where
  d : Int
  nm : Str
  kd : Str
  ms : List Str
def Pp.enc (p : Pp) : PyData := .tuple [.str (Str.ofString "paper"), .int p.d, .str p.nm, .str p.kd, .tuple (p.ms.map .str)]
def Pp.key (p : Pp) : Int × Str := (p.d, p.nm)
def kfP : PyData → Int × Str
  | .tuple (_ :: .int d :: .str n :: _) => (d, n)
  | _ => (0, Str.ofString "")
/-- stands ahead -/
def Pp.lt (a b : Pp) : Prop := ltP a.key b.key = true
instance (a b : Pp) : Decidable (a.lt b) := by unfold Pp.lt; infer_instance
theorem ltP_irr (p : Int × Str) : ltP p p = false := by unfold ltP; simp [List.lt_irrefl]
theorem ltP_tr {a b c : Int × Str} (h1 : ltP a b = true) (h2 : ltP b c = true) : ltP a c = true := by
  unfold ltP at h1 h2 ⊢
  simp only [Bool.or_eq_true, Bool.and_eq_true, decide_eq_true_eq] at h1 h2 ⊢
  rcases h1 with h1 | ⟨h1, h1'⟩ <;> rcases h2 with h2 | ⟨h2, h2'⟩
  · left; omega
  · left; omega
  · left; omega
  · right; exact ⟨h1.trans h2, List.lt_trans h1' h2'⟩
theorem ltP_asym {a b : Int × Str} (h : ltP a b = true) : ¬ ltP b a = true := fun z => by
  have := ltP_tr h z
  rw [ltP_irr] at this; cases this
theorem ltP_tot {a b : Int × Str} (h : a ≠ b) : ltP a b = true ∨ ltP b a = true := by
  have T := ltP_strict (n := 2) (kp := fun i => if i = 0 then a else b) (fun i j hi hj e => by
    have : i = 0 ∨ i = 1 := by omega
    have : j = 0 ∨ j = 1 := by omega
    rcases ‹i = 0 ∨ i = 1› with rfl | rfl <;> rcases ‹j = 0 ∨ j = 1› with rfl | rfl
    · rfl
    · exact absurd e h
    · exact absurd e.symm h
    · rfl)
  have := T.tot 0 1 (by omega) (by omega) (by omega)
  simp at this
  cases hb : ltP b a with
  | true => exact .inr rfl
  | false => rw [hb] at this; exact .inl (by simpa using this)
theorem Pp.lt_irr (a : Pp) : ¬ a.lt a := by unfold Pp.lt; rw [ltP_irr]; simp
theorem Pp.lt_tr {a b c : Pp} (h1 : a.lt b) (h2 : b.lt c) : a.lt c := ltP_tr h1 h2
/-- two rising lists of the same things are the same -/
theorem rising_uniq {α : Type} {r : α → α → Prop} (as : ∀ a b, r a b → ¬ r b a) : ∀ {l1 l2 : List α}, l1.Perm l2 → l1.Pairwise r → l2.Pairwise r → l1 = l2
  | [], l2, p, _, _ => by rw [p.nil_eq]
  | a :: l1, [], p, _, _ => by have := p.length_eq; simp at this
  | a :: l1, b :: l2, p, h1, h2 => by
    have e : a = b := by
      have m1 : a ∈ b :: l2 := p.mem_iff.mp (by simp)
      have m2 : b ∈ a :: l1 := p.mem_iff.mpr (by simp)
      rcases List.mem_cons.mp m1 with e | m1
      · exact e
      · rcases List.mem_cons.mp m2 with e | m2
        · exact e.symm
        · exact absurd ((List.pairwise_cons.mp h1).1 b m2) (as _ _ ((List.pairwise_cons.mp h2).1 a m1))
    subst e
    rw [rising_uniq as ((List.perm_cons a).mp p) (List.pairwise_cons.mp h1).2 (List.pairwise_cons.mp h2).2]
def insP (x : Pp) : List Pp → List Pp
  | [] => [x]
  | y :: l => if x.lt y then x :: y :: l else y :: insP x l
def ordP (ps : List Pp) : List Pp := ps.foldr insP []
theorem insP_perm (x : Pp) : ∀ l, (insP x l).Perm (x :: l)
  | [] => .refl _
  | y :: l => by
    unfold insP
    split
    · exact .refl _
    · exact ((insP_perm x l).cons y).trans (.swap x y l)
theorem ordP_perm : ∀ ps : List Pp, (ordP ps).Perm ps
  | [] => .refl _
  | x :: ps => (insP_perm x (ordP ps)).trans ((ordP_perm ps).cons x)
theorem insP_pw {x : Pp} : ∀ {l : List Pp}, (∀ y ∈ l, y.nm ≠ x.nm) → l.Pairwise Pp.lt → (insP x l).Pairwise Pp.lt
  | [], _, _ => List.pairwise_singleton _ _
  | y :: l, hn, h => by
    have hp := List.pairwise_cons.mp h
    unfold insP
    split
    · rename_i hl
      refine List.pairwise_cons.mpr ⟨fun z hz => ?_, h⟩
      rcases List.mem_cons.mp hz with e | e
      · subst e; exact hl
      · exact Pp.lt_tr hl (hp.1 z e)
    · rename_i hl
      refine List.pairwise_cons.mpr ⟨fun z hz => ?_, insP_pw (fun z hz => hn z (by simp [hz])) hp.2⟩
      rcases List.mem_cons.mp ((insP_perm x l).mem_iff.mp hz) with e | e
      · subst e
        rcases ltP_tot (a := y.key) (b := z.key) (fun z => hn y (by simp) (congrArg Prod.snd z)) with w | w
        · exact w
        · exact absurd w hl
      · exact hp.1 z e
theorem ordP_pw : ∀ {ps : List Pp}, (ps.map (·.nm)).Nodup → (ordP ps).Pairwise Pp.lt
  | [], _ => .nil
  | x :: ps, h => by
    rw [List.map_cons, List.nodup_cons] at h
    exact insP_pw (fun y hy e => h.1 (by rw [← e]; exact List.mem_map.mpr ⟨y, (ordP_perm ps).mem_iff.mp hy, rfl⟩)) (ordP_pw h.2)
theorem ordP_mem {ps : List Pp} {x : Pp} : x ∈ ordP ps ↔ x ∈ ps := (ordP_perm ps).mem_iff
theorem ordP_len {ps : List Pp} : (ordP ps).length = ps.length := (ordP_perm ps).length_eq
theorem Pp.asym (a b : Pp) (h : a.lt b) : ¬ b.lt a := ltP_asym h
theorem ordP_uniq {ps os : List Pp} (nd : (ps.map (·.nm)).Nodup) (hp : os.Perm ps) (hs : os.Pairwise Pp.lt) : os = ordP ps :=
  rising_uniq Pp.asym (hp.trans (ordP_perm ps).symm) hs (ordP_pw nd)
theorem ordP_perm_eq {ps qs : List Pp} (nd : (ps.map (·.nm)).Nodup) (h : qs.Perm ps) : ordP qs = ordP ps :=
  ordP_uniq nd ((ordP_perm qs).trans h) (ordP_pw ((h.map _).nodup_iff.mpr nd))
theorem nd_filter {ps : List Pp} {f : Pp → Bool} (nd : (ps.map (·.nm)).Nodup) : ((ps.filter f).map (·.nm)).Nodup := nd.sublist (List.filter_sublist.map _)
theorem ordP_filter {ps : List Pp} {f : Pp → Bool} (nd : (ps.map (·.nm)).Nodup) : ordP (ps.filter f) = (ordP ps).filter f :=
  (ordP_uniq (nd_filter nd) ((ordP_perm ps).filter f) ((ordP_pw nd).sublist List.filter_sublist)).symm
theorem ordP_data {ps : List Pp} {ds : List PyData} (nd : (ps.map (·.nm)).Nodup) (hp : ds.Perm (ps.map Pp.enc)) (hs : ds.Pairwise fun a b => ltP (kfP a) (kfP b) = true) : ds = (ordP ps).map Pp.enc := by
  refine rising_uniq (fun a b h => ltP_asym h) (hp.trans ((ordP_perm ps).symm.map _)) hs ?_
  rw [List.pairwise_map]
  exact ordP_pw nd
theorem ordP_pairs {ps : List Pp} {ds : List (Int × Str)} (nd : (ps.map (·.nm)).Nodup) (hp : ds.Perm (ps.map Pp.key)) (hs : ds.Pairwise fun a b => ltP a b = true) : ds = (ordP ps).map Pp.key := by
  refine rising_uniq (fun a b h => ltP_asym h) (hp.trans ((ordP_perm ps).symm.map _)) hs ?_
  rw [List.pairwise_map]
  exact ordP_pw nd
theorem uniq_nm {ps : List Pp} (nd : (ps.map (·.nm)).Nodup) {a b : Pp} (ha : a ∈ ps) (hb : b ∈ ps) (e : a.nm = b.nm) : a = b := by
  induction ps with
  | nil => cases ha
  | cons x ps ih =>
    rw [List.map_cons, List.nodup_cons] at nd
    rcases List.mem_cons.mp ha with ea | ha1 <;> rcases List.mem_cons.mp hb with eb | hb1
    · rw [ea, eb]
    · subst ea; exact absurd (List.mem_map.mpr ⟨b, hb1, e.symm⟩) nd.1
    · subst eb; exact absurd (List.mem_map.mpr ⟨a, ha1, e⟩) nd.1
    · exact ih nd.2 ha1 hb1
/-- in a rising list what stands ahead of a place's thing is ahead -/
theorem ahead_take {os : List Pp} (h : os.Pairwise Pp.lt) {i : Nat} {o m : Pp} (ho : os[i]? = some o) (hm : m ∈ os) (hl : m.lt o) : m ∈ os.take i := by
  rw [← List.take_append_drop i os] at hm h
  rcases List.mem_append.mp hm with z | z
  · exact z
  · have hd : os.drop i = o :: os.drop (i + 1) := by
      obtain ⟨h1, h2⟩ := List.getElem?_eq_some_iff.mp ho
      rw [List.drop_eq_getElem_cons h1, h2]
    rw [hd] at z h
    rcases List.mem_cons.mp z with e | z
    · rw [e] at hl; exact absurd hl (Pp.lt_irr o)
    · have := (List.pairwise_cons.mp (List.pairwise_append.mp h).2.1).1 m z
      exact absurd hl (Pp.asym _ _ this)
theorem take_ahead {os : List Pp} (h : os.Pairwise Pp.lt) {i : Nat} {o m : Pp} (ho : os[i]? = some o) (hm : m ∈ os.take i) : m.lt o := by
  rw [← List.take_append_drop i os] at h
  have hd : o ∈ os.drop i := by
    obtain ⟨h1, h2⟩ := List.getElem?_eq_some_iff.mp ho
    rw [List.drop_eq_getElem_cons h1, h2]; simp
  exact (List.pairwise_append.mp h).2.2 m hm o hd
theorem take_eq_filter {os : List Pp} (h : os.Pairwise Pp.lt) {i : Nat} {o : Pp} (ho : os[i]? = some o) : os.take i = os.filter fun p => ltP p.key o.key := by
  have e : os.filter (fun p => ltP p.key o.key) = (os.take i).filter (fun p => ltP p.key o.key) ++ (os.drop i).filter (fun p => ltP p.key o.key) := by
    rw [← List.filter_append, List.take_append_drop]
  rw [e, List.filter_eq_self.mpr fun m hm => take_ahead h ho hm, List.filter_eq_nil_iff.mpr, List.append_nil]
  intro m hm hl
  have hmo : m ∈ os := List.mem_of_mem_drop hm
  have := ahead_take h ho hmo hl
  have nd : os.Nodup := List.Pairwise.imp (R := Pp.lt) (fun {a b} (z : a.lt b) (e : a = b) => Pp.lt_irr a (by rw [← e] at z; exact z)) h
  rw [← List.take_append_drop i os] at nd
  exact (List.nodup_append.mp nd).2.2 m this m hm rfl
structure GoodP (ps : List Pp) : Prop where
  ln : ps.length ≤ 41
  nd : (ps.map (·.nm)).Nodup
  nm : ∀ p ∈ ps, PyData.strOk p.nm = true
  kd : ∀ p ∈ ps, PyData.strOk p.kd = true
  ms : ∀ p ∈ ps, (∀ m ∈ p.ms, PyData.strOk m = true) ∧ p.ms.length ≤ 50
theorem GoodP.perm {ps qs : List Pp} (g : GoodP ps) (h : qs.Perm ps) : GoodP qs :=
  ⟨by rw [h.length_eq]; exact g.ln, (h.map _).nodup_iff.mpr g.nd, fun p hp => g.nm p (h.mem_iff.mp hp), fun p hp => g.kd p (h.mem_iff.mp hp), fun p hp => g.ms p (h.mem_iff.mp hp)⟩
theorem GoodP.filter {ps : List Pp} (g : GoodP ps) (f : Pp → Bool) : GoodP (ps.filter f) :=
  ⟨Nat.le_trans (List.length_filter_le _ _) g.ln, nd_filter g.nd, fun p hp => g.nm p (List.mem_filter.mp hp).1, fun p hp => g.kd p (List.mem_filter.mp hp).1, fun p hp => g.ms p (List.mem_filter.mp hp).1⟩
/-- the makers that count, in order -/
def mkF (c p : Pp) : Bool := c.ms.contains p.nm && ltP p.key c.key
def mksP (ps : List Pp) (c : Pp) : List Pp := (ordP ps).filter (mkF c)
def MkP (ps : List Pp) (a b : Pp) : Prop := a ∈ ps ∧ b ∈ ps ∧ a.nm ∈ b.ms ∧ a.lt b
inductive Anc (ps : List Pp) : Pp → Pp → Prop
  | one {a b : Pp} : MkP ps a b → Anc ps a b
  | more {a b c : Pp} : Anc ps a b → MkP ps b c → Anc ps a c
theorem mksP_mem {ps : List Pp} {c p : Pp} (hc : c ∈ ps) : p ∈ mksP ps c ↔ MkP ps p c := by
  unfold mksP mkF
  rw [List.mem_filter, ordP_mem]
  simp only [Bool.and_eq_true, List.contains_iff_mem]
  exact ⟨fun ⟨a, b, d⟩ => ⟨a, hc, b, d⟩, fun ⟨a, _, b, d⟩ => ⟨a, b, d⟩⟩
theorem Anc.lt {ps : List Pp} {a b : Pp} (h : Anc ps a b) : a.lt b := by
  induction h with
  | one h => exact h.2.2.2
  | more _ h ih => exact Pp.lt_tr ih h.2.2.2
theorem Anc.mem {ps : List Pp} {a b : Pp} (h : Anc ps a b) : a ∈ ps ∧ b ∈ ps := by
  induction h with
  | one h => exact ⟨h.1, h.2.1⟩
  | more _ h ih => exact ⟨ih.1, h.2.1⟩
theorem Anc.imp {ps qs : List Pp} (hm : ∀ x ∈ ps, x ∈ qs) {a b : Pp} (h : Anc ps a b) : Anc qs a b := by
  induction h with
  | one h => exact .one ⟨hm _ h.1, hm _ h.2.1, h.2.2⟩
  | more _ h ih => exact .more ih ⟨hm _ h.1, hm _ h.2.1, h.2.2⟩
theorem Anc.iff {ps : List Pp} {a c : Pp} : Anc ps a c ↔ ∃ b, MkP ps b c ∧ (b = a ∨ Anc ps a b) := by
  constructor
  · intro h
    cases h with
    | one h => exact ⟨a, h, .inl rfl⟩
    | more h1 h2 => exact ⟨_, h2, .inr h1⟩
  · rintro ⟨b, h, e | e⟩
    · subst e; exact .one h
    · exact .more e h
open Classical in
noncomputable def ancB (ps : List Pp) (a b : Pp) : Bool := decide (Anc ps a b)
theorem ancB_iff {ps : List Pp} {a b : Pp} : ancB ps a b = true ↔ Anc ps a b := by unfold ancB; exact @decide_eq_true_iff _ (Classical.propDecidable _)
/-- what is made of a paper, in order -/
noncomputable def madeP (ps : List Pp) (a : Pp) : List Pp := (ordP ps).filter (ancB ps a)
theorem ancB_congr {ps qs : List Pp} {a b a' b' : Pp} (h : Anc ps a b ↔ Anc qs a' b') : ancB ps a b = ancB qs a' b' := by
  cases e : ancB qs a' b' with
  | true => exact ancB_iff.mpr (h.mpr (ancB_iff.mp e))
  | false =>
    cases e2 : ancB ps a b with
    | false => rfl
    | true => rw [ancB_iff.mpr (h.mp (ancB_iff.mp e2))] at e; cases e
theorem madeP_perm {ps qs : List Pp} (g : GoodP ps) (h : qs.Perm ps) (a : Pp) : madeP qs a = madeP ps a := by
  unfold madeP
  rw [ordP_perm_eq g.nd h]
  congr 1
  funext b
  exact ancB_congr ⟨fun z => z.imp fun x hx => h.mem_iff.mp hx, fun z => z.imp fun x hx => h.mem_iff.mpr hx⟩
/-- one paper more, behind all -/
theorem ordP_last {ps : List Pp} {q : Pp} (g : GoodP (ps ++ [q])) (hl : ∀ p ∈ ps, p.lt q) : ordP (ps ++ [q]) = ordP ps ++ [q] := by
  have nd : (ps.map (·.nm)).Nodup := g.nd.sublist ((List.sublist_append_left ps [q]).map _)
  refine (ordP_uniq g.nd ((ordP_perm ps).append_right [q]) ?_).symm
  rw [List.pairwise_append]
  refine ⟨ordP_pw nd, List.pairwise_singleton _ _, fun a ha b hb => ?_⟩
  rw [List.mem_singleton] at hb
  rw [hb]
  exact hl a (ordP_mem.mp ha)
theorem anc_last {ps : List Pp} {q : Pp} (hl : ∀ p ∈ ps, p.lt q) {a b : Pp} (hb : b ∈ ps) : Anc (ps ++ [q]) a b ↔ Anc ps a b := by
  constructor
  · intro h
    induction h with
    | one h =>
      refine .one ⟨?_, hb, h.2.2⟩
      rcases List.mem_append.mp h.1 with z | z
      · exact z
      · rw [List.mem_singleton] at z
        rw [z] at h
        exact absurd h.2.2.2 (Pp.asym _ _ (hl _ hb))
    | more h1 h2 ih =>
      rename_i c d
      have hc : c ∈ ps := by
        rcases List.mem_append.mp h2.1 with z | z
        · exact z
        · rw [List.mem_singleton] at z
          rw [z] at h2
          exact absurd h2.2.2.2 (Pp.asym _ _ (hl _ hb))
      exact .more (ih hc) ⟨hc, hb, h2.2.2⟩
  · exact fun h => h.imp fun x hx => List.mem_append_left _ hx
theorem made_last {ps : List Pp} {q : Pp} (g : GoodP (ps ++ [q])) (hl : ∀ p ∈ ps, p.lt q) {a : Pp} : madeP (ps ++ [q]) a = madeP ps a ++ if ancB (ps ++ [q]) a q = true then [q] else [] := by
  unfold madeP
  rw [ordP_last g hl, List.filter_append, List.filter_congr (q := ancB ps a) fun b hb => ancB_congr (anc_last hl (ordP_mem.mp hb))]
  congr 1
  rw [List.filter_cons, List.filter_nil]
theorem anc_q {ps : List Pp} {q : Pp} (hl : ∀ p ∈ ps, p.lt q) {a : Pp} : Anc (ps ++ [q]) a q ↔ ∃ b ∈ ps, b.nm ∈ q.ms ∧ (b = a ∨ Anc ps a b) := by
  rw [Anc.iff]
  constructor
  · rintro ⟨b, h, e⟩
    have hb : b ∈ ps := by
      rcases List.mem_append.mp h.1 with z | z
      · exact z
      · rw [List.mem_singleton] at z
        rw [z] at h
        exact absurd h.2.2.2 (Pp.lt_irr q)
    exact ⟨b, hb, h.2.2.1, e.imp id (anc_last hl hb).mp⟩
  · rintro ⟨b, hb, hm, e⟩
    exact ⟨b, ⟨List.mem_append_left _ hb, by simp, hm, hl b hb⟩, e.imp id (anc_last hl hb).mpr⟩
theorem made_q {ps : List Pp} {q : Pp} (g : GoodP (ps ++ [q])) (hl : ∀ p ∈ ps, p.lt q) : madeP (ps ++ [q]) q = [] := by
  unfold madeP
  rw [List.filter_eq_nil_iff]
  intro b hb e
  have h := (ancB_iff.mp e).lt
  rcases List.mem_append.mp (ordP_mem.mp hb) with z | z
  · exact Pp.asym _ _ h (hl b z)
  · rw [List.mem_singleton] at z; rw [z] at h; exact Pp.lt_irr q h
/-- what is made of a paper stands behind it -/
theorem made_drop {ps : List Pp} (g : GoodP ps) {i : Nat} {a : Pp} (ha : (ordP ps)[i]? = some a) : madeP ps a = ((ordP ps).drop (i + 1)).filter (ancB ps a) := by
  have pw := ordP_pw g.nd
  unfold madeP
  have e : (ordP ps).filter (ancB ps a) = ((ordP ps).take (i + 1)).filter (ancB ps a) ++ ((ordP ps).drop (i + 1)).filter (ancB ps a) := by
    rw [← List.filter_append, List.take_append_drop]
  rw [e, List.filter_eq_nil_iff.mpr, List.nil_append]
  intro b hb e
  have h := (ancB_iff.mp e).lt
  rw [List.take_succ, ha] at hb
  rcases List.mem_append.mp hb with z | z
  · exact Pp.asym _ _ h (take_ahead pw ha z)
  · simp at z; rw [z] at h; exact Pp.lt_irr a h
end K10

open PySem L2
local macro_rules | `(tactic| walk_at "rz") => `(tactic| ((try simp only [startD, List.map_cons, List.map_nil, List.length_cons, List.length_nil, Nat.reduceAdd, Nat.reduceSub, List.replicate, List.cons_append, List.nil_append]); simp only [↓lz_w, ↓lz_k0, ↓lz_kS, ↓lz_kE, ↓lz_kN, ↓lz_ks, ↓lz_ki, ↓lz_wN, ↓lz_v0, ↓lz_vS, ↓lz_vE, ↓lz_vN, ↓lz_o0, ↓lz_oS, ↓lz_oE, ↓lz_oN, ↓lz_b, ↓lz_i, ↓lz_s, ↓lz_t, ↓lz_l, ↓lz_ii, ↓lz_ss, ↓lz_tt, ↓lz_ll, ↓lz_cons, ↓lz_two, ↓lz_tt0, ↓lz_tt1, ↓lz_tt2, ↓lz_tt3, ↓lz_ll0, ↓lz_ll1, ↓lz_ll2, ↓lz_tix, ↓lz_lix, dSeq, dNext, dIfS, dRet, dRetO, dDrop, dSet, dNew, dApp, dAsg, dPar, dFrz, dVar, dOwn, dC, dOp, dI, dIC, dEq, dNe, dIn, dIxL, dIxT, dIxS, dAddS, dCatT, dCat, dL, dFin, dTup, dLst, dNil, dCons, dTest, dAnd, dOr, dNot, dAndV, dOrV, dNotV, dIf, dChain, dCall, dCallS, dCallN, wq_paper_happens, wq_paper_rule, wq_paper_end, wq_paper_hold, wq_paper_lift, wq_paper_leave, wq_happens_paper, wq_happens_rule, wq_happens_end, wq_happens_hold, wq_happens_lift, wq_happens_leave, wq_rule_paper, wq_rule_happens, wq_rule_end, wq_rule_hold, wq_rule_lift, wq_rule_leave, wq_end_paper, wq_end_happens, wq_end_rule, wq_end_hold, wq_end_lift, wq_end_leave, wq_hold_paper, wq_hold_happens, wq_hold_rule, wq_hold_end, wq_hold_lift, wq_hold_leave, wq_lift_paper, wq_lift_happens, wq_lift_rule, wq_lift_end, wq_lift_hold, wq_lift_leave, wq_leave_paper, wq_leave_happens, wq_leave_rule, wq_leave_end, wq_leave_hold, wq_leave_lift, dRep2, dSlL, dSlT, dSlS, dLits, dSel, dRev, dNoPart, dPart, dLen, dLenS, dTupOf, dAny, dTwo, dIsin, dJoin, dInt, dListOf, dYes, dComp, dCompT, dCompR, dFor, dForT, dForR, dForR2, dForI, dForTI, dForRI, dForR2I, dSlX, dDct0, dNeg, dUpper, dRevT, dRepT, cD_nm1, dInX, dLenT, dLtS, dInS, dEqZ, dInZ, dSortS, dCompSI, dCompR2I, dStrI, dIntT, dZfill, dSplit, dJs, dNever, dLtU, dNewK, dEmp, dPutK, dGetK, dGet1K, dInK, dSortK, dIsN, dNotN, dMulS, dIxSc, dSlSc, dAbs, dPar3, dExt, dMaxL, dForDK, dDisp, dPairs, dSortSet, dFrzK, dGetD, dSortPr, dSortKey, dLtP, dIndex, dListRg, dCompV, dCatX, take_iff, cD_1n, cD_2n, cD_3n, cD_4n, cD_n1, cD_n2, cD_n3, cD_n4, cD_13, ne_eq, thing_str, thing_int, thing_bool, thing_tup, thing_list, strsE1, strsE2, strsE3, dCompI, dCompTI, dCompRI, dgName, dgTup, dgCons, dgNil, forW, startD, dst0, CDiv, CPow, CMul, List.map_cons, List.map_nil, List.length_cons, List.length_nil, List.replicate, List.cons_append, List.nil_append, List.append_nil, Nat.reduceAdd, Nat.reduceSub, Nat.add_zero, Nat.zero_add, Nat.sub_self, List.getElem?_cons_zero, List.getElem?_cons_succ, List.getElem?_nil, List.set_cons_zero, List.set_cons_succ, Option.some.injEq, exists_eq_left', exists_eq_left, exists_and_left, exists_and_right, Option.join_some, Option.join_none, Sl.v.injEq, Sl.o.injEq, Sl.k.injEq, PyData.int.injEq, PyData.bool.injEq, PyData.str.injEq, PyData.tuple.injEq, PyData.list.injEq, List.cons.injEq, and_true, true_and, Nat.reduceLT, Nat.reduceLeDiff, exists_const, decide_eq_true_eq, Int.reduceLT, Int.reduceLE, Int.reduceNeg, Int.reducePow, Bool.not_eq_true', decide_eq_false_iff_not, and_assoc, or_true, true_or, ↓reduceIte, if_true, if_false, Bool.false_eq_true, Bool.true_eq_false, not_true_eq_false, not_false_eq_true, Bool.not_true, Bool.not_false, ite_true, ite_false, eq_self, exists_eq, reduceCtorEq, false_and, and_false, or_false, false_or, exists_false, Option.map_some, Option.map_none, scalD, List.all_cons, List.all_nil, List.any_cons, List.any_nil, Bool.and_true, Bool.or_false, Bool.true_and, Bool.false_or, atI_c0, atI_c1, atI_c2, atI_c3, atI_c4, eqv_str, eqv_int, eqv_bool, beq_self_eq_true, shp_int, shp_bl, shp_non, Shp, sizeLine_eq]))

namespace K10
theorem cs_comings_0 : CompScope (defScope s_comings) ["deeds"] ["deed"] 1 [] { kind := PySem.ScopeKind.function, names := [(PySem.Str.ofString ".0", PySem.NameKind.local), (PySem.Str.ofString "deed", PySem.NameKind.local)], isGenerator := false, isCoroutine := false, more := [] : PySem.Scope } := ⟨rfl, by decide +kernel, by decide +kernel, by decide +kernel, rfl, by decide +kernel, by decide +kernel, by decide +kernel, rfl⟩

theorem cs_papers_0 : CompScope (defScope s_papers) ["deeds"] ["deed"] 1 [] { kind := PySem.ScopeKind.function, names := [(PySem.Str.ofString ".0", PySem.NameKind.local), (PySem.Str.ofString "deed", PySem.NameKind.local)], isGenerator := false, isCoroutine := false, more := [] : PySem.Scope } := ⟨rfl, by decide +kernel, by decide +kernel, by decide +kernel, rfl, by decide +kernel, by decide +kernel, by decide +kernel, rfl⟩

section
variable {P : Program} {w : World} {K : PySem.W.Frag} {mg : Str → Option Value} {base : Heap} {t : Adr}
/-- a comprehension over papers that keeps some -/
theorem compI_pf {g : DG} {tc : DB} {te : DT} {δ0 : Dl} {ps : List Pp} {Q : List PyData → Prop} (p : Pp → Bool) (f : Pp → PyData)
    (h : ∀ x ∈ ps, ∀ (R : PyData → Prop) (S : Prop), (if p x = true then R (f x) else S) → g x.enc δ0 fun δ2 => tc δ2 fun ok => if ok = true then te δ2 R else S) (q : Q ((ps.filter p).map f)) : compI g tc te δ0 (ps.map Pp.enc) Q := by
  refine ⟨fun i acc => acc = ((ps.take i).filter p).map f, rfl, ?_, ?_⟩
  · rintro i z acc hz rfl
    rw [List.getElem?_map] at hz
    cases hz' : ps[i]? with
    | none => rw [hz'] at hz; cases hz
    | some x =>
      rw [hz'] at hz; cases hz
      refine h x (List.mem_of_getElem? hz') (fun y => ((ps.take i).filter p).map f ++ [y] = ((ps.take (i + 1)).filter p).map f) (((ps.take i).filter p).map f = ((ps.take (i + 1)).filter p).map f) ?_
      rw [List.take_succ, hz']
      by_cases e : p x = true
      · rw [if_pos e]; simp [e]
      · rw [if_neg e]; simp [e]
  · rintro acc rfl
    rw [List.length_map, List.take_of_length_le (Nat.le_refl _)]; exact q
/-- a comprehension over texts that keeps some -/
theorem compI_sf {g : DG} {tc : DB} {te : DT} {δ0 : Dl} {ss : List Str} {Q : List PyData → Prop} (p : Str → Bool) (f : Str → PyData)
    (h : ∀ x ∈ ss, ∀ (R : PyData → Prop) (S : Prop), (if p x = true then R (f x) else S) → g (.str x) δ0 fun δ2 => tc δ2 fun ok => if ok = true then te δ2 R else S) (q : Q ((ss.filter p).map f)) : compI g tc te δ0 (ss.map .str) Q := by
  refine ⟨fun i acc => acc = ((ss.take i).filter p).map f, rfl, ?_, ?_⟩
  · rintro i z acc hz rfl
    rw [List.getElem?_map] at hz
    cases hz' : ss[i]? with
    | none => rw [hz'] at hz; cases hz
    | some x =>
      rw [hz'] at hz; cases hz
      refine h x (List.mem_of_getElem? hz') (fun y => ((ss.take i).filter p).map f ++ [y] = ((ss.take (i + 1)).filter p).map f) (((ss.take i).filter p).map f = ((ss.take (i + 1)).filter p).map f) ?_
      rw [List.take_succ, hz']
      by_cases e : p x = true
      · rw [if_pos e]; simp [e]
      · rw [if_neg e]; simp [e]
  · rintro acc rfl
    rw [List.length_map, List.take_of_length_le (Nat.le_refl _)]; exact q
theorem filter_true {α : Type} (l : List α) : l.filter (fun _ => true) = l := List.filter_eq_self.mpr fun _ _ => rfl
def F_place : List PyData → (PyData → Prop) → Prop := fun ds Q => ∃ p : Pp, ds = [p.enc] ∧ Q (prD p.key)
theorem ok_place (T : Txt K mg t) : FnOk P w K mg base CX0 1 t.a_place_of t.d_place_of ["deed"] (spD K F_place) := by
  refine T.F_place_of.okD sc_place_of (fun ds Q h => ?_) (fun cdv A outer s H O ds Q E hr h => ?_)
  · obtain ⟨p, rfl, _⟩ := h; rfl
  · obtain ⟨p, rfl, q⟩ := h
    refine' ⟨_, ?body, ?read⟩
    case body =>
      refine' dss_one ?s1
      case s1 =>
        refine' ds_ret ?e2
        case e2 =>
          refine' de_tup ?t3
          case t3 =>
            refine' da_cons ?u4 ?w4
            case u4 =>
              exact (de_ix ix_tup od_ixT (df (dv 0)) (df de_int))
            case w4 =>
              refine' da_cons ?u6 ?w6
              case u6 =>
                exact (de_ix ix_tup od_ixT (df (dv 0)) (df de_int))
              case w6 =>
                exact da_nil
    case read =>
    clear hr T
    simp only [Pp.enc]
    walk_at "rz"
    exact q
theorem kf_place {d : PyData} {ps : List Pp} (h : d ∈ ps.map Pp.enc) (R : PyData → Prop) (q : R (prD (kfP d))) : F_place [d] R := by
  obtain ⟨p, hp, rfl⟩ := List.mem_map.mp h
  exact ⟨p, rfl, q⟩
def F_comings : List PyData → (PyData → Prop) → Prop := fun ds Q => ∃ ps : List Pp, (ds = [.list (ps.map Pp.enc)] ∨ ds = [.tuple (ps.map Pp.enc)]) ∧ GoodP ps ∧ Q (.list ((ordP ps).map Pp.enc))
theorem key_nd {ps : List Pp} (nd : (ps.map (·.nm)).Nodup) : (ps.map Pp.key).Nodup := by
  rw [List.Nodup, List.pairwise_map] at nd ⊢
  exact nd.imp fun h e => h (congrArg Prod.snd e)
theorem ok_comings (T : Txt K mg t) : FnOk P w K mg base CX0 4 t.a_comings t.d_comings ["deeds"] (spD K F_comings) := by
  have G_place_of := ok_place (P := P) (w := w) (base := base) T
  refine T.F_comings.okD sc_comings (fun ds Q h => ?_) (fun cdv A outer s H O ds Q E hr h => ?_)
  · obtain ⟨ps, h | h, _⟩ := h <;> subst h <;> rfl
  · obtain ⟨ps, e, gd, q⟩ := h
    refine' ⟨_, ?body, ?read⟩
    case body =>
      refine' dss_one ?s1
      case s1 =>
        refine' ds_ret ?e2
        case e2 =>
          exact (fe (fe_sortKey kfP rfl G_place_of (Room.in1 (Room.in1 (hr.mono (by decide)))) T.b_place_of rfl T.m_place_of rfl T.n_sorted PyProof.Rows.boot_sorted (db_cons (df (fe (fe_compV rfl cs_comings_0 (df (dv 0)) gd_name keepName (by decide) (fun _ _ _ _ => (pg_name (i := 0) cs_comings_0.nd rfl (by first | exact Or.inl rfl | exact Or.inr rfl))) (fun _ _ _ _ => (pf_one (dt_cmp (op_eqZ hr) od_eqZ (df (de_ix ix_tup od_ixT (df (dv 0)) (df de_int))) (df de_str) (nomark _)))) (fun _ _ _ _ => (dv 0))))) db_nil)))
    case read =>
    clear hr T G_place_of
    have ln := gd.ln
    have fin : ∀ ds' : List PyData, ds'.Perm (ps.map Pp.enc) → ds'.Pairwise (fun a b => ltP (kfP a) (kfP b) = true) → Q (.list ds') := fun ds' h1 h2 => by
      rw [ordP_data gd.nd h1 h2]; exact q
    have step : ∀ x ∈ ps, ∀ (R : PyData → Prop) (S : Prop), (if true = true then R x.enc else S) → R x.enc := fun x _ R S h => by rw [if_pos rfl] at h; exact h
    rcases e with e | e <;> subst e
    · walk_at "rz"
      refine ⟨by rw [List.length_map]; omega, compI_pf (fun _ => true) Pp.enc (fun x hx R S h => ?_) ?_⟩
      · simp only [Pp.enc]
        walk_at "rz"
        exact step x hx R S h
      · rw [filter_true]
        refine ⟨fun d hd R z => kf_place hd R z, by rw [List.length_map]; omega, ?_, fin⟩
        rw [List.map_map]
        exact key_nd gd.nd
    · walk_at "rz"
      refine ⟨by rw [List.length_map]; omega, compI_pf (fun _ => true) Pp.enc (fun x hx R S h => ?_) ?_⟩
      · simp only [Pp.enc]
        walk_at "rz"
        exact step x hx R S h
      · rw [filter_true]
        refine ⟨fun d hd R z => kf_place hd R z, by rw [List.length_map]; omega, ?_, fin⟩
        rw [List.map_map]
        exact key_nd gd.nd
def F_coming : List PyData → (PyData → Prop) → Prop := fun ds Q => ∃ (ps : List Pp) (c : Pp), ds = [.tuple (ps.map Pp.enc), .str c.nm] ∧ GoodP ps ∧ c ∈ ps ∧ Q c.enc
theorem ok_coming (T : Txt K mg t) : FnOk P w K mg base CX0 1 t.a_coming_of t.d_coming_of ["deeds", "paper"] (spD K F_coming) := by
  refine T.F_coming_of.okD sc_coming_of (fun ds Q h => ?_) (fun cdv A outer s H O ds Q E hr h => ?_)
  · obtain ⟨ps, c, rfl, _⟩ := h; rfl
  · obtain ⟨ps, c, rfl, gd, hc, q⟩ := h
    refine' ⟨_, ?body, ?read⟩
    case body =>
      refine' dss_cons ?s1 ?r1
      case s1 =>
        refine' ds_forTI PassesOwn.never rfl (dv 0) ?a2 gd_name ?b2
        case a2 => exact (pg_name (i := 2) sc_coming_of.nd rfl (by first | exact Or.inl rfl | exact Or.inr rfl))
        case b2 =>
          refine' dss_one ?s3
          case s3 =>
            refine' ds_if ?c4 ?a4 ?b4
            case c4 => exact (PW.pt (dw_and (dt_cmp (op_eqZ hr) od_eqZ (df (de_ix ix_tup od_ixT (df (dv 2)) (df de_int))) (df de_str) (nomark _)) (dw_and1 (dt_cmp (op_eqX hr.units) od_eq (df (de_ix ix_tup od_ixT (df (dv 2)) (df de_int))) (df (dv 1)) (nomark _)))))
            case a4 =>
              refine' dss_one ?s5
              case s5 =>
                exact (ds_ret (dv 2))
            case b4 =>
              exact dss_nil
      case r1 =>
        refine' dss_one ?s7
        case s7 =>
          exact ds_never
    case read =>
    clear hr T
    walk_at "rz"
    refine ⟨fun i δ => (∀ x ∈ ps.take i, x.nm ≠ c.nm) ∧ ∃ o2, δ = [some (Sl.v (.tuple (ps.map Pp.enc))), some (Sl.v (.str c.nm)), o2], ⟨by simp, _, rfl⟩, ?_, ?_⟩
    · rintro i z δ hz ⟨hn, o2, rfl⟩
      rw [List.getElem?_map] at hz
      cases hz' : ps[i]? with
      | none => rw [hz'] at hz; cases hz
      | some x =>
        rw [hz'] at hz; cases hz
        have hx := List.mem_of_getElem? hz'
        simp only [Pp.enc]
        walk_at "rz"
        refine ⟨shp_str.mpr (gd.nm x hx), shp_str.mpr (gd.nm c hc), ?_⟩
        split
        · rename_i h
          have e := uniq_nm gd.nd hx hc (eq_of_beq h)
          subst e
          exact q
        · rename_i h
          refine ⟨fun y hy => ?_, _, rfl⟩
          rw [List.take_succ, hz'] at hy
          rcases List.mem_append.mp hy with z | z
          · exact hn y z
          · simp at z; rw [z]; exact fun e => h (by rw [e]; exact beq_self_eq_true _)
    · rintro δ ⟨hn, o2, rfl⟩
      rw [List.length_map, List.take_of_length_le (Nat.le_refl _)] at hn
      exact absurd rfl (hn c hc)
def F_papers : List PyData → (PyData → Prop) → Prop := fun ds Q => ∃ ps : List Pp, ds = [.tuple (ps.map Pp.enc)] ∧ GoodP ps ∧ Q (.tuple ((ordP ps).map fun p => .str p.nm))
theorem comings_iff {ps : List Pp} {Q : PyData → Prop} (g : GoodP ps) (q : Q (.list ((ordP ps).map Pp.enc))) : F_comings [.tuple (ps.map Pp.enc)] Q := ⟨ps, .inr rfl, g, q⟩
theorem ok_papers (T : Txt K mg t) : FnOk P w K mg base CX0 5 t.a_papers t.d_papers ["deeds"] (spD K F_papers) := by
  have G_comings := ok_comings (P := P) (w := w) (base := base) T
  refine T.F_papers.okD sc_papers (fun ds Q h => ?_) (fun cdv A outer s H O ds Q E hr h => ?_)
  · obtain ⟨ps, rfl, _⟩ := h; rfl
  · obtain ⟨ps, rfl, gd, q⟩ := h
    refine' ⟨_, ?body, ?read⟩
    case body =>
      refine' dss_one ?s1
      case s1 =>
        refine' ds_ret ?e2
        case e2 =>
          exact (PE.imp (pe_callTy call_tuple_of rfl T.n_tuple bt_tuple (db_cons (df (fe (fe_compI rfl cs_papers_0 (df (PE.imp (pe_call G_comings (hr.mono (by decide)) rfl T.m_comings T.F_comings.kp T.b_comings .nil pass0 (da_cons (dv 0) da_nil)) dcall)) gd_name keepName (by decide) (fun _ _ _ _ => (pg_name (i := 0) cs_papers_0.nd rfl (by first | exact Or.inl rfl | exact Or.inr rfl))) (fun _ _ _ _ => pf_nilD) (fun _ _ _ _ => (de_ix ix_tup od_ixT (df (dv 0)) (df de_int)))))) db_nil)) (dcb cd_tupOf))
    case read =>
    clear hr T G_comings
    walk_at "rz"
    refine comings_iff gd ⟨_, rfl, by rw [List.length_map, ordP_len]; have := gd.ln; omega, compI_pf (fun _ => true) (fun p => .str p.nm) (fun x hx R S h => ?_) ?_⟩
    · simp only [Pp.enc]
      walk_at "rz"
      rw [if_pos rfl] at h; exact h
    · rw [filter_true]
      exact q
end
end K10

open PySem L2

namespace K10
theorem cs_maker_comings_0 : CompScope (defScope s_maker_comings) ["deeds", "coming", "named"] ["deed", "coming"] 1 [1] { kind := PySem.ScopeKind.function, names := [ (PySem.Str.ofString ".0", PySem.NameKind.local), (PySem.Str.ofString "deed", PySem.NameKind.local), (PySem.Str.ofString "coming", PySem.NameKind.free)], isGenerator := false, isCoroutine := false, more := [] : PySem.Scope } := ⟨rfl, by decide +kernel, by decide +kernel, by decide +kernel, rfl, by decide +kernel, by decide +kernel, by decide +kernel, rfl⟩
theorem cs_maker_comings_1 : CompScope (defScope s_maker_comings) ["deeds", "coming", "named"] ["deed", "coming"] 1 [1] { kind := PySem.ScopeKind.function, names := [ (PySem.Str.ofString ".0", PySem.NameKind.local), (PySem.Str.ofString "deed", PySem.NameKind.local), (PySem.Str.ofString "place_of", PySem.NameKind.globalImplicit), (PySem.Str.ofString "coming", PySem.NameKind.free)], isGenerator := false, isCoroutine := false, more := [] : PySem.Scope } := ⟨rfl, by decide +kernel, by decide +kernel, by decide +kernel, rfl, by decide +kernel, by decide +kernel, by decide +kernel, rfl⟩

theorem cs_makers_0 : CompScope (defScope s_makers) ["deeds", "paper"] ["deed"] 1 [] { kind := PySem.ScopeKind.function, names := [(PySem.Str.ofString ".0", PySem.NameKind.local), (PySem.Str.ofString "deed", PySem.NameKind.local)], isGenerator := false, isCoroutine := false, more := [] : PySem.Scope } := ⟨rfl, by decide +kernel, by decide +kernel, by decide +kernel, rfl, by decide +kernel, by decide +kernel, by decide +kernel, rfl⟩

theorem cs_made_of_0 : CompScope (defScope s_made_of) ["deeds", "paper", "reached", "made", "name"] ["maker", "reached"] 1 [2] { kind := PySem.ScopeKind.function, names := [ (PySem.Str.ofString ".0", PySem.NameKind.local), (PySem.Str.ofString "maker", PySem.NameKind.local), (PySem.Str.ofString "reached", PySem.NameKind.free)], isGenerator := false, isCoroutine := false, more := [] : PySem.Scope } := ⟨rfl, by decide +kernel, by decide +kernel, by decide +kernel, rfl, by decide +kernel, by decide +kernel, by decide +kernel, rfl⟩

section
variable {P : Program} {w : World} {K : PySem.W.Frag} {mg : Str → Option Value} {base : Heap} {t : Adr}
theorem in_strs {ws : List Str} {w : Str} : ((ws.map PyData.str).any fun d => PyData.eqv d (.str w)) = ws.contains w := by
  induction ws with
  | nil => rfl
  | cons a ws ih =>
    rw [List.map_cons, List.any_cons, ih, eqv_str, List.contains_cons]
    congr 1
    by_cases h : a = w
    · simp [h]
    · rw [show (a == w) = false by simpa using h, show (w == a) = false by simpa using Ne.symm h]
theorem lay_ss {ms : List Str} (h : ∀ m ∈ ms, PyData.strOk m = true) : PyData.canLayAll0 (ms.map .str) = true := (lay_all (n := 1) (lay_strs h)).1
def F_makerc : List PyData → (PyData → Prop) → Prop := fun ds Q => ∃ (ps : List Pp) (c : Pp), ds = [.tuple (ps.map Pp.enc), c.enc] ∧ GoodP ps ∧ c ∈ ps ∧ Q (.list ((mksP ps c).map Pp.enc))
theorem ok_makerc (T : Txt K mg t) : FnOk P w K mg base CX0 5 t.a_maker_comings t.d_maker_comings ["deeds", "coming"] (spD K F_makerc) := by
  have G_comings := ok_comings (P := P) (w := w) (base := base) T
  have G_place_of := ok_place (P := P) (w := w) (base := base) T
  refine T.F_maker_comings.okD sc_maker_comings (fun ds Q h => ?_) (fun cdv A outer s H O ds Q E hr h => ?_)
  · obtain ⟨ps, c, rfl, _⟩ := h; rfl
  · obtain ⟨ps, c, rfl, gd, hc, q⟩ := h
    refine' ⟨_, ?body, ?read⟩
    case body =>
      refine' dss_cons ?s1 ?r1
      case s1 =>
        exact (ds_setC (i := 2) sc_maker_comings.nd rfl (by first | exact Or.inl rfl | exact Or.inr rfl) (fu_compTI rfl cs_maker_comings_0 (df (dv 0)) gd_name keepName (by decide) (fun _ _ _ _ => (pg_name (i := 0) cs_maker_comings_0.nd rfl (by first | exact Or.inl rfl | exact Or.inr rfl))) (fun _ _ _ _ => (pf_one (PW.pt (dw_and (dt_cmp (op_eqZ hr) od_eqZ (df (de_ix ix_tup od_ixT (df (dv 0)) (df de_int))) (df de_str) (nomark _)) (dw_and1 (dt_cmp (op_inX hr) od_inX (df (de_ix ix_tup od_ixT (df (dv 0)) (df de_int))) (df (de_ix ix_tup od_ixT (df (dv 1)) (df de_int))) rfl)))))) (fun _ _ _ _ => (dv 0))))
      case r1 =>
        refine' dss_one ?s3
        case s3 =>
          refine' ds_ret ?e4
          case e4 =>
            exact (PE.imp (pe_call G_comings (hr.mono (by decide)) rfl T.m_comings T.F_comings.kp T.b_comings .nil pass0 (da_cons (fe (fe_compI rfl cs_maker_comings_1 (df (dv 2)) gd_name keepName (by decide) (fun _ _ _ _ => (pg_name (i := 0) cs_maker_comings_1.nd rfl (by first | exact Or.inl rfl | exact Or.inr rfl))) (fun _ _ _ _ => (pf_one (dt_cmp (op_ltP hr.units0) od_ltP (df (PE.imp (pe_call G_place_of (hr.mono (by decide)) rfl T.m_place_of T.F_place_of.kp T.b_place_of .nil pass0 (da_cons (dv 0) da_nil)) dcall)) (df (PE.imp (pe_call G_place_of (hr.mono (by decide)) rfl T.m_place_of T.F_place_of.kp T.b_place_of .nil pass0 (da_cons (dv 1) da_nil)) dcall)) (nomark _)))) (fun _ _ _ _ => (dv 0)))) da_nil)) dcall)
    case read =>
    clear hr T G_comings G_place_of
    have ln := gd.ln
    obtain ⟨hm1, hm2⟩ := gd.ms c hc
    walk_at "rz"
    refine ⟨by rw [List.length_map]; omega, compI_pf (fun p => c.ms.contains p.nm) Pp.enc (fun x hx R S h => ?_) ?_⟩
    · simp only [Pp.enc]
      walk_at "rz"
      refine ⟨shp_str.mpr (gd.nm x hx), lay_ss hm1, ?_⟩
      rw [in_strs]
      exact h
    · refine ⟨by rw [List.length_map]; have := List.length_filter_le (fun p : Pp => c.ms.contains p.nm) ps; omega, compI_pf (fun p => ltP p.key c.key) Pp.enc (fun x hx R S h => ?_) ?_⟩
      · walk_at "rz"
        exact ⟨x, rfl, c, rfl, x.key, rfl, c.key, rfl, h⟩
      · refine ⟨_, .inl rfl, (gd.filter _).filter _, ?_⟩
        rw [List.filter_filter, ordP_filter gd.nd]
        have e : (fun a : Pp => ltP a.key c.key && c.ms.contains a.nm) = mkF c := by funext a; unfold mkF; exact Bool.and_comm _ _
        rw [e]
        exact q
def F_makers : List PyData → (PyData → Prop) → Prop := fun ds Q => ∃ (ps : List Pp) (c : Pp), ds = [.tuple (ps.map Pp.enc), .str c.nm] ∧ GoodP ps ∧ c ∈ ps ∧ Q (.tuple ((mksP ps c).map fun p => .str p.nm))
theorem mks_len {ps : List Pp} {c : Pp} (g : GoodP ps) : (mksP ps c).length ≤ 41 := by
  unfold mksP
  have := List.length_filter_le (mkF c) (ordP ps)
  rw [ordP_len] at this
  exact Nat.le_trans this g.ln
theorem ok_makers (T : Txt K mg t) : FnOk P w K mg base CX0 6 t.a_makers t.d_makers ["deeds", "paper"] (spD K F_makers) := by
  have G_maker_comings := ok_makerc (P := P) (w := w) (base := base) T
  have G_coming_of := ok_coming (P := P) (w := w) (base := base) T
  refine T.F_makers.okD sc_makers (fun ds Q h => ?_) (fun cdv A outer s H O ds Q E hr h => ?_)
  · obtain ⟨ps, c, rfl, _⟩ := h; rfl
  · obtain ⟨ps, c, rfl, gd, hc, q⟩ := h
    refine' ⟨_, ?body, ?read⟩
    case body =>
      refine' dss_one ?s1
      case s1 =>
        refine' ds_ret ?e2
        case e2 =>
          exact (PE.imp (pe_callTy call_tuple_of rfl T.n_tuple bt_tuple (db_cons (df (fe (fe_compI rfl cs_makers_0 (df (PE.imp (pe_call G_maker_comings (hr.mono (by decide)) rfl T.m_maker_comings T.F_maker_comings.kp T.b_maker_comings .nil pass0 (da_cons (dv 0) (da_cons (PE.imp (pe_call G_coming_of (hr.mono (by decide)) rfl T.m_coming_of T.F_coming_of.kp T.b_coming_of .nil pass0 (da_cons (dv 0) (da_cons (dv 1) da_nil))) dcall) da_nil))) dcall)) gd_name keepName (by decide) (fun _ _ _ _ => (pg_name (i := 0) cs_makers_0.nd rfl (by first | exact Or.inl rfl | exact Or.inr rfl))) (fun _ _ _ _ => pf_nilD) (fun _ _ _ _ => (de_ix ix_tup od_ixT (df (dv 0)) (df de_int)))))) db_nil)) (dcb cd_tupOf))
    case read =>
    clear hr T G_maker_comings G_coming_of
    walk_at "rz"
    refine ⟨ps, c, rfl, gd, hc, ps, c, rfl, gd, hc, _, rfl, by rw [List.length_map]; have := mks_len (c := c) gd; omega, compI_pf (fun _ => true) (fun p => .str p.nm) (fun x hx R S h => ?_) ?_⟩
    · simp only [Pp.enc]
      walk_at "rz"
      rw [if_pos rfl] at h; exact h
    · rw [filter_true]
      exact q
/-- reached: the keys of a dict -/
def hasK (kd : List (Key × PyData)) (z : Str) : Prop := (valD kd (.inr z)).isSome = true
theorem hasK_mem {kd : List (Key × PyData)} {z : Str} : hasK kd z ↔ ∃ p ∈ kd, p.1 = .inr z := by
  unfold hasK valD
  rw [Option.isSome_map, List.find?_isSome]
  simp
theorem hasK_put {kd : List (Key × PyData)} {y z : Str} {d : PyData} : hasK (putD kd (.inr y) d) z ↔ hasK kd z ∨ z = y := by
  rw [hasK_mem, hasK_mem]
  unfold putD
  split
  · rename_i h
    rw [List.any_eq_true] at h
    obtain ⟨p, hp, e⟩ := h
    have e : p.1 = .inr y := by simpa using e
    constructor
    · rintro ⟨r, hr, er⟩
      obtain ⟨s, hs, rfl⟩ := List.mem_map.mp hr
      refine .inl ⟨s, hs, ?_⟩
      split at er
      · exact er
      · exact er
    · rintro (⟨r, hr, er⟩ | rfl)
      · refine ⟨_, List.mem_map.mpr ⟨r, hr, rfl⟩, ?_⟩
        split
        · exact er
        · exact er
      · refine ⟨_, List.mem_map.mpr ⟨p, hp, rfl⟩, ?_⟩
        rw [if_pos e]; exact e
  · constructor
    · rintro ⟨r, hr, er⟩
      rcases List.mem_append.mp hr with h | h
      · exact .inl ⟨r, h, er⟩
      · rw [List.mem_singleton] at h
        rw [h] at er
        exact .inr (Sum.inr.inj er).symm
    · rintro (⟨r, hr, er⟩ | rfl)
      · exact ⟨r, List.mem_append_left _ hr, er⟩
      · exact ⟨_, List.mem_append_right _ (List.mem_singleton.mpr rfl), rfl⟩
theorem putD_len {kd : List (Key × PyData)} {k : Key} {d : PyData} : (putD kd k d).length ≤ kd.length + 1 := by
  unfold putD
  split
  · rw [List.length_map]; omega
  · rw [List.length_append]; exact Nat.le_refl _
def F_made : List PyData → (PyData → Prop) → Prop := fun ds Q => ∃ (ps : List Pp) (c : Pp), ds = [.tuple (ps.map Pp.enc), .str c.nm] ∧ GoodP ps ∧ c ∈ ps ∧ Q (.tuple ((madeP ps c).map fun p => .str p.nm))
theorem ok_made (T : Txt K mg t) : FnOk P w K mg base CX0 7 t.a_made_of t.d_made_of ["deeds", "paper"] (spD K F_made) := by
  have G_makers := ok_makers (P := P) (w := w) (base := base) T
  have G_coming_of := ok_coming (P := P) (w := w) (base := base) T
  have G_papers := ok_papers (P := P) (w := w) (base := base) T
  refine T.F_made_of.okD sc_made_of (fun ds Q h => ?_) (fun cdv A outer s H O ds Q E hr h => ?_)
  · obtain ⟨ps, c, rfl, _⟩ := h; rfl
  · obtain ⟨ps, c, rfl, gd, hc, q⟩ := h
    refine' ⟨_, ?body, ?read⟩
    case body =>
      refine' dss_cons ?s1 ?r1
      case s1 =>
        exact (ds_expr (PE.imp (pe_call G_coming_of (hr.mono (by decide)) rfl T.m_coming_of T.F_coming_of.kp T.b_coming_of .nil pass0 (da_cons (dv 0) (da_cons (dv 1) da_nil))) dcall))
      case r1 =>
        refine' dss_cons ?s3 ?r3
        case s3 =>
          generalize hD4 : Expr.Dict _ _ _ = ed4
          refine' ds_newK (i := 2) sc_made_of.nd rfl (by first | exact Or.inl rfl | exact Or.inr rfl) ?e4 (hs := by subst hD4; first | rfl | exact swaps_Dict)
          case e4 =>
            subst hD4
            refine' ke_disp ?p4_0
            case p4_0 =>
              refine' kps_cons ?a4 ?b4 ?p4_1
              case a4 => exact (dv 1)
              case b4 => exact de_bl
              case p4_1 => exact kps_nil
        case r3 =>
          refine' dss_cons ?s5 ?r5
          case s5 =>
            exact (ds_new (i := 3) sc_made_of.nd rfl (by first | exact Or.inl rfl | exact Or.inr rfl) (fe_lst da_nil))
          case r5 =>
            refine' dss_cons ?s7 ?r7
            case s7 =>
              refine' ds_forTI PassesOwn.never rfl (PE.imp (pe_call G_papers (hr.mono (by decide)) rfl T.m_papers T.F_papers.kp T.b_papers .nil pass0 (da_cons (dv 0) da_nil)) dcall) ?a8 gd_name ?b8
              case a8 => exact (pg_name (i := 4) sc_made_of.nd rfl (by first | exact Or.inl rfl | exact Or.inr rfl))
              case b8 =>
                refine' dss_one ?s9
                case s9 =>
                  refine' ds_if ?c10 ?a10 ?b10
                  case c10 => exact (dt_val (PE.imp (pe_callB (call_any rfl) rfl T.n_any bt_any (db_cons (df (fe (fe_compTI rfl cs_made_of_0 (df (PE.imp (pe_call G_makers (hr.mono (by decide)) rfl T.m_makers T.F_makers.kp T.b_makers .nil pass0 (da_cons (dv 0) (da_cons (dv 4) da_nil))) dcall)) gd_name keepName (by decide) (fun _ _ _ _ => (pg_name (i := 0) cs_made_of_0.nd rfl (by first | exact Or.inl rfl | exact Or.inr rfl))) (fun _ _ _ _ => pf_nilD) (fun _ _ _ _ => (de_inK (i := 1) hr.units (pv 1) (dv 0)))))) db_nil)) (dcb cd_any)))
                  case a10 =>
                    refine' dss_cons ?s11 ?r11
                    case s11 =>
                      exact (ds_putK (i := 2) hr.units (pv 2) (dv 4) de_bl)
                    case r11 =>
                      refine' dss_one ?s13
                      case s13 =>
                        exact (ds_app (i := 3) (pv 3) (dv 4))
                  case b10 =>
                    exact dss_nil
            case r7 =>
              refine' dss_one ?s15
              case s15 =>
                exact (ds_ret (PE.imp (pe_callTy call_tuple_of rfl T.n_tuple bt_tuple (db_cons (dw 3) db_nil)) (dcb cd_tupOf)))
    case read =>
    clear hr T G_makers G_coming_of G_papers
    walk_at "rz"
    refine ⟨ps, c, rfl, gd, hc, [(.inr c.nm, .bool true)], rfl, by simp, by simp, ps, rfl, gd, _, rfl, ?_⟩
    have ln := gd.ln
    have pw := ordP_pw gd.nd
    refine ⟨fun i δ => ∃ kd o4, (∀ z, hasK kd z ↔ z = c.nm ∨ ∃ o ∈ (ordP ps).take i, o.nm = z ∧ Anc ps c o) ∧ kd.length ≤ i + 1 ∧ δ = [some (Sl.v (.tuple (ps.map Pp.enc))), some (Sl.v (.str c.nm)), some (Sl.k kd), some (Sl.o ((((ordP ps).take i).filter (ancB ps c)).map fun p => .str p.nm)), o4], ⟨_, _, ?_, ?_, rfl⟩, ?_, ?_⟩
    · intro z
      rw [List.foldl_cons, List.foldl_nil, hasK_put]
      simp [hasK, valD]
    · simp [putD]
    · rintro i z δ hz ⟨kd, o4, hk, hl, rfl⟩
      rw [List.getElem?_map] at hz
      cases hz' : (ordP ps)[i]? with
      | none => rw [hz'] at hz; cases hz
      | some o =>
        rw [hz'] at hz; cases hz
        have ho : o ∈ ps := ordP_mem.mp (List.mem_of_getElem? hz')
        have hi : i < 41 := by
          have := (List.getElem?_eq_some_iff.mp hz').1
          rw [ordP_len] at this; omega
        walk_at "rz"
        refine ⟨ps, o, rfl, gd, ho, _, rfl, by rw [List.length_map]; have := mks_len (c := o) gd; omega, ?_⟩
        rw [show ((mksP ps o).map fun p => PyData.str p.nm) = ((mksP ps o).map (·.nm)).map .str by rw [List.map_map]; rfl]
        refine compI_sf (fun _ => true) (fun z => .bool (valD kd (.inr z)).isSome) (fun x hx R S h => ?_) ?_
        · walk_at "rz"
          rw [if_pos rfl] at h
          exact h
        · rw [filter_true]
          have key : ((mksP ps o).map fun p => (valD kd (.inr p.nm)).isSome).any id = ancB ps c o := by
            cases e : ancB ps c o with
            | true =>
              obtain ⟨b, hb, e2⟩ := Anc.iff.mp (ancB_iff.mp e)
              rw [List.any_map, List.any_eq_true]
              refine ⟨b, (mksP_mem ho).mpr hb, (hk b.nm).mpr ?_⟩
              rcases e2 with e2 | e2
              · exact .inl (by rw [e2])
              · exact .inr ⟨b, ahead_take pw hz' (ordP_mem.mpr hb.1) hb.2.2.2, rfl, e2⟩
            | false =>
              rw [List.any_map, List.any_eq_false]
              intro b hb z
              have hb' := (mksP_mem ho).mp hb
              have : Anc ps c o := by
                rcases (hk b.nm).mp z with e2 | ⟨b', hb2, e3, e4⟩
                · exact Anc.iff.mpr ⟨b, hb', .inl (uniq_nm gd.nd hb'.1 hc e2)⟩
                · have := uniq_nm gd.nd e4.mem.2 hb'.1 e3
                  rw [this] at e4
                  exact Anc.iff.mpr ⟨b, hb', .inr e4⟩
              rw [ancB_iff.mpr this] at e; cases e
          have ts : (ordP ps).take (i + 1) = (ordP ps).take i ++ [o] := by rw [List.take_succ, hz']; rfl
          have fl : ((ordP ps).take i).length ≤ 41 := by rw [List.length_take]; omega
          refine ⟨(mksP ps o).map fun p => (valD kd (.inr p.nm)).isSome, by rw [List.map_map, List.map_map]; rfl, ?_⟩
          cases e : ancB ps c o with
          | true =>
            rw [if_pos (key.trans e)]
            refine ⟨by omega, by rw [List.length_map]; have := List.length_filter_le (ancB ps c) ((ordP ps).take i); omega, _, fun z => ?_, ?_, rfl, ?_, _, rfl⟩
            · rw [hasK_put, hk z, ts]
              constructor
              · rintro ((h | ⟨b, hb, e1, e2⟩) | h)
                · exact .inl h
                · exact .inr ⟨b, List.mem_append_left _ hb, e1, e2⟩
                · exact .inr ⟨o, by simp, h.symm, ancB_iff.mp e⟩
              · rintro (h | ⟨b, hb, e1, e2⟩)
                · exact .inl (.inl h)
                · rcases List.mem_append.mp hb with hb | hb
                  · exact .inl (.inr ⟨b, hb, e1, e2⟩)
                  · rw [List.mem_singleton] at hb
                    exact .inr (by rw [← e1, hb])
            · have := putD_len (kd := kd) (k := .inr o.nm) (d := .bool true)
              omega
            · rw [ts, List.filter_append, List.filter_cons, e, if_pos rfl, List.filter_nil, List.map_append]; rfl
          | false =>
            rw [if_neg (fun z => Bool.false_ne_true ((key.trans e).symm.trans z))]
            refine ⟨_, fun z => ?_, by omega, rfl, ?_, _, rfl⟩
            · rw [hk z, ts]
              constructor
              · rintro (h | ⟨b, hb, e1, e2⟩)
                · exact .inl h
                · exact .inr ⟨b, List.mem_append_left _ hb, e1, e2⟩
              · rintro (h | ⟨b, hb, e1, e2⟩)
                · exact .inl h
                · rcases List.mem_append.mp hb with hb | hb
                  · exact .inr ⟨b, hb, e1, e2⟩
                  · rw [List.mem_singleton] at hb
                    rw [hb] at e2
                    rw [ancB_iff.mpr e2] at e; cases e
            · rw [ts, List.filter_append, List.filter_cons, e, if_neg Bool.false_ne_true, List.filter_nil, List.append_nil]
    · rintro δ ⟨kd, o4, hk, hl, rfl⟩
      walk_at "rz"
      rw [List.length_map, List.take_of_length_le (Nat.le_refl _)]
      exact q
end
end K10

open PySem L2

namespace K10
section
variable {P : Program} {w : World} {K : PySem.W.Frag} {mg : Str → Option Value} {base : Heap} {t : Adr}
theorem br3 {g : DG} {tb : DS} {E : DEnds} {xs : List PyData} {δf : Int → Dl} {C D p q X : Prop} [Decidable C] [Decidable D] {d1 d2 d3 : Int} (hp : p) (hq : q) (hX : X) (key : ∀ dg, forI g tb E xs (δf dg)) :
    if C then p ∧ q ∧ forI g tb E xs (δf d1) else X ∧ if D then p ∧ q ∧ forI g tb E xs (δf d2) else p ∧ q ∧ forI g tb E xs (δf d3) := by
  split
  · exact ⟨hp, hq, key _⟩
  · refine ⟨hX, ?_⟩
    split
    · exact ⟨hp, hq, key _⟩
    · exact ⟨hp, hq, key _⟩
def F_cell : List PyData → (PyData → Prop) → Prop := fun ds Q => ∃ (ns : List Int) (k : Int), ds = [scrD (ns.map .int), .int k] ∧ 0 ≤ k ∧ k ≤ 1000 ∧ ∀ c : Int, Q (.int c)
theorem ok_cell (T : Txt K mg t) : FnOk P w K mg base CX0 1 t.a__law_cell t.d__law_cell ["_law_script", "_law_k"] (spD K F_cell) := by
  refine T.F__law_cell.okD sc__law_cell (fun ds Q h => ?_) (fun cdv A outer s H O ds Q E hr h => ?_)
  · obtain ⟨ns, k, rfl, _⟩ := h; rfl
  · obtain ⟨ns, k, rfl, k0, k1, q⟩ := h
    refine' ⟨_, ?body, ?read⟩
    case body =>
      refine' dss_cons ?s1 ?r1
      case s1 =>
        refine' ds_if ?c2 ?a2 ?b2
        case c2 => exact (dt_cmp op_lt od_bl (df (dv 1)) (df (PE.imp (pe_callB call_len_seq rfl T.n_len PySem.boot_len (db_cons (df (dv 0)) db_nil)) (dcb cd_lenS))) (nomark _))
        case a2 =>
          refine' dss_one ?s3
          case s3 =>
            exact (ds_ret (de_ix ix_list od_ixSc (df (dv 0)) (df (dv 1))))
        case b2 =>
          exact dss_nil
      case r1 =>
        refine' dss_cons ?s5 ?r5
        case s5 =>
          refine' ds_set (i := 2) sc__law_cell.nd rfl (by first | exact Or.inl rfl | exact Or.inr rfl) ?e6 (hs := swaps_BinOp)
          case e6 =>
            exact (de_op op_mod od_intC (df (de_op op_mul od_intC (df de_int) (df (de_op op_add od_int (df (de_op op_add od_int (df (de_op op_mul od_intC (df (dv 1)) (df (dv 1)))) (df (de_op op_mul od_intC (df de_int) (df (dv 1)))))) (df de_int))))) (df de_int))
        case r5 =>
          refine' dss_cons ?s8 ?r8
          case s8 =>
            refine' ds_forI PassesOwn.never rfl (fe (fe_sliceSc (df (dv 0)) do_none (do_some de_int))) ?a9 gd_name ?b9
            case a9 => exact (pg_name (i := 3) sc__law_cell.nd rfl (by first | exact Or.inl rfl | exact Or.inr rfl))
            case b9 =>
              refine' dss_one ?s10
              case s10 =>
                refine' ds_set (i := 2) sc__law_cell.nd rfl (by first | exact Or.inl rfl | exact Or.inr rfl) ?e11 (hs := swaps_BinOp)
                case e11 =>
                  exact (de_op op_mod od_intC (df (de_op op_add od_int (df (de_op op_mul od_intC (df (dv 2)) (df de_int))) (df (dv 3)))) (df de_int))
          case r8 =>
            refine' dss_one ?s13
            case s13 =>
              exact (ds_ret (dv 2))
    case read =>
    clear hr T
    walk_at "rz"
    refine ⟨_, rfl, ?_⟩
    rw [List.length_map]
    split
    · rename_i hlt
      obtain ⟨j, rfl⟩ := Int.eq_ofNat_of_zero_le k0
      have hj : j < ns.length := by omega
      exact ⟨_, rfl, .int ns[j], atI_nat (by simp [hj]), q _⟩
    · refine ⟨.inl ⟨by omega, by omega⟩, _, rfl, fun i δ => ∃ (st : Int) (o : Option Sl), δ = [some (Sl.v (scrD (ns.map .int))), some (Sl.v (.int k)), some (Sl.v (.int st)), o], ⟨_, _, rfl⟩, ?_, ?_⟩
      · rintro i x δ hx ⟨st, o, rfl⟩
        have hm := List.mem_of_getElem? hx
        unfold cutD at hm
        have hm2 := List.mem_of_mem_drop (List.mem_of_mem_take hm)
        obtain ⟨c, _, rfl⟩ := List.mem_map.mp hm2
        walk_at "rz"
        first | exact ⟨_, _, rfl, rfl⟩ | exact ⟨⟨_, rfl⟩, ⟨_, rfl⟩⟩
      · rintro δ ⟨st, o, rfl⟩
        walk_at "rz"
        exact q _
def F_numbers : List PyData → (PyData → Prop) → Prop := fun ds Q => ∃ c m : Int, ds = [.int c, .int m] ∧ 0 ≤ m ∧ m ≤ 64 ∧ ∀ ns : List Int, (ns.length : Int) = m → (∀ z ∈ ns, 0 ≤ z ∧ z < 2000000000) → Q (.list (ns.map .int))
theorem ok_numbers (T : Txt K mg t) : FnOk P w K mg base CX0 1 t.a__law_numbers t.d__law_numbers ["_law_cell_here", "_law_many"] (spD K F_numbers) := by
  refine T.F__law_numbers.okD sc__law_numbers (fun ds Q h => ?_) (fun cdv A outer s H O ds Q E hr h => ?_)
  · obtain ⟨c, m, rfl, _⟩ := h; rfl
  · obtain ⟨c, m, rfl, m0, m1, q⟩ := h
    refine' ⟨_, ?body, ?read⟩
    case body =>
      refine' dss_cons ?s1 ?r1
      case s1 =>
        exact (ds_new (i := 2) sc__law_numbers.nd rfl (by first | exact Or.inl rfl | exact Or.inr rfl) (fe_lst da_nil))
      case r1 =>
        refine' dss_cons ?s3 ?r3
        case s3 =>
          refine' ds_set (i := 3) sc__law_numbers.nd rfl (by first | exact Or.inl rfl | exact Or.inr rfl) ?e4 (hs := swaps_BinOp)
          case e4 =>
            exact (de_op op_mod od_intC (df (de_op op_mul od_intC (df (de_op op_add od_int (df (de_op op_mod od_intC (df (dv 0)) (df de_int))) (df de_int))) (df de_int))) (df de_int))
        case r3 =>
          refine' dss_cons ?s6 ?r6
          case s6 =>
            exact (ds_set (i := 4) sc__law_numbers.nd rfl (by first | exact Or.inl rfl | exact Or.inr rfl) de_int)
          case r6 =>
            refine' dss_cons ?s8 ?r8
            case s8 =>
              refine' ds_if ?c9 ?a9 ?b9
              case c9 => exact (PW.pt (dw_or (dt_cmp op_lt od_bl (df (dv 0)) (df de_int) (nomark _)) (dw_or1 (dt_cmp op_ge od_bl (df (dv 0)) (df (de_op op_pow od_intC (df de_int) (df de_int))) (nomark _)))))
              case a9 =>
                refine' dss_one ?s10
                case s10 =>
                  exact (ds_set (i := 4) sc__law_numbers.nd rfl (by first | exact Or.inl rfl | exact Or.inr rfl) (PE.imp (pe_callB call_abs rfl T.n_abs PyProof.Rows.boot_abs (db_cons (df (dv 0)) db_nil)) (dcb cd_abs)))
              case b9 =>
                exact dss_nil
            case r8 =>
              refine' dss_cons ?s12 ?r12
              case s12 =>
                refine' ds_forRI PassesOwn.never rfl rfl T.n_range (da_cons (dv 1) da_nil) ?a13 gd_name ?b13
                case a13 => exact (pg_name (i := 5) sc__law_numbers.nd rfl (by first | exact Or.inl rfl | exact Or.inr rfl))
                case b13 =>
                  refine' dss_cons ?s14 ?r14
                  case s14 =>
                    generalize hG15 : Expr.BinOp _ _ _ _ = eg15
                    refine' ds_set (i := 3) sc__law_numbers.nd rfl (by first | exact Or.inl rfl | exact Or.inr rfl) ?e15 (hs := by subst hG15; exact swaps_BinOp)
                    case e15 =>
                      subst hG15
                      exact (de_op op_mod od_intC (df (de_op op_add od_int (df (de_op op_add od_int (df (de_op op_mul od_intC (df (dv 3)) (df (de_op op_add od_int (df (de_op op_mod od_intC (df (dv 3)) (df de_int))) (df de_int))))) (df (de_op op_mul od_intC (df de_int) (df (dv 5)))))) (df de_int))) (df de_int))
                  case r14 =>
                    refine' dss_cons ?s17 ?r17
                    case s17 =>
                      refine' ds_app (i := 2) (pv 2) ?e18
                      case e18 =>
                        refine' de_ix ix_list od_ixL (df ?a19) ?b19
                        case a19 =>
                          exact (fe (fe_lst (da_cons (dv 3) (da_cons (de_op op_mod od_intC (df (dv 4)) (df de_int)) da_nil))))
                        case b19 => exact (df (PE.imp (pe_callTy call_int1 rfl T.n_int bt_int (db_cons (df (de_cmp op_gt od_bl (df (dv 4)) (df de_int) (nomark _))) db_nil)) (dcb cd_int)))
                    case r17 =>
                      refine' dss_one ?s21
                      case s21 =>
                        exact (ds_set (i := 4) sc__law_numbers.nd rfl (by first | exact Or.inl rfl | exact Or.inr rfl) (de_op op_fdiv od_intC (df (dv 4)) (df de_int)))
              case r12 =>
                refine' dss_one ?s23
                case s23 =>
                  exact (ds_retO (pv 2))
    case read =>
    clear hr T
    walk_at "rz"
    have st0 : 0 ≤ (c % 1999999871 + 53) * 598371041 % 1999999871 ∧ (c % 1999999871 + 53) * 598371041 % 1999999871 < 1999999871 := ⟨Int.emod_nonneg _ (by decide), Int.emod_lt_of_pos _ (by decide)⟩
    generalize (c % 1999999871 + 53) * 598371041 % 1999999871 = st at *
    have b1 : -4611686018427387904 ≤ m := by omega
    have b2 : m < 4611686018427387904 := by omega
    refine br3 (δf := fun dg => [some (Sl.v (.int c)), some (Sl.v (.int m)), some (Sl.o []), some (Sl.v (.int st)), some (Sl.v (.int dg)), none]) b1 b2 (by decide) ?key
    case key =>
      intro dg
      refine ⟨fun i δ => ∃ (ns : List Int) (st dg : Int) (o : Option Sl), ns.length = i ∧ (∀ z ∈ ns, 0 ≤ z ∧ z < 2000000000) ∧ 0 ≤ st ∧ st < 1999999871 ∧ δ = [some (Sl.v (.int c)), some (Sl.v (.int m)), some (Sl.o (ns.map .int)), some (Sl.v (.int st)), some (Sl.v (.int dg)), o], ⟨[], st, dg, none, rfl, by simp, st0.1, st0.2, rfl⟩, ?_, ?_⟩
      · rintro i x δ hx ⟨ns, st, dg, o, hl, hn, s0, s1, rfl⟩
        obtain ⟨hi, rfl⟩ := rangeD_at hx
        clear st0
        walk_at "rz"
        have n0 : 0 ≤ (st * (st % 63443 + 41201) + 13 * (0 + (i : Int)) + 7) % 1999999871 := Int.emod_nonneg _ (by decide)
        have n1 : (st * (st % 63443 + 41201) + 13 * (0 + (i : Int)) + 7) % 1999999871 < 1999999871 := Int.emod_lt_of_pos _ (by decide)
        generalize (st * (st % 63443 + 41201) + 13 * (0 + (i : Int)) + 7) % 1999999871 = nx at *
        have d0 : 0 ≤ dg % 1000000 := Int.emod_nonneg _ (by decide)
        have d1 : dg % 1000000 < 1000000 := Int.emod_lt_of_pos _ (by decide)
        obtain ⟨z, hz, z0, z1⟩ : ∃ z : Int, atI [PyData.int nx, PyData.int (dg % 1000000)] (if 0 < dg then 1 else 0) = some (.int z) ∧ 0 ≤ z ∧ z < 2000000000 := by
          split
          · exact ⟨_, atI_c1, d0, by omega⟩
          · exact ⟨_, atI_c0, n0, by omega⟩
        refine ⟨.inl ⟨by omega, by omega⟩, .int z, hz, by rw [List.length_map]; omega, ⟨_, rfl⟩, ns ++ [z], by simp [hl], fun y hy => ?_, nx, n0, n1, by simp, rfl, _, rfl⟩
        rcases List.mem_append.mp hy with h | h
        · exact hn y h
        · rw [List.mem_singleton] at h; rw [h]; exact ⟨z0, z1⟩
      · rintro δ ⟨ns, st, dg, o, hl, hn, s0, s1, rfl⟩
        walk_at "rz"
        have hm : (ns.length : Int) = m := by rw [hl]; unfold rangeD; simp; omega
        exact q ns hm hn
end
end K10

open PySem L2

namespace K10
theorem cs__law_names_0 : CompScope (defScope s__law_names) ["_law_xs", "_law_many", "_law_letters", "_law_stem", "_law_size", "_law_at", "_law_some", "_law_k", "_law_two"] ["_law_k", "_law_letters", "_law_stem", "_law_xs"] 1 [2, 3, 0] { kind := PySem.ScopeKind.function, names := [ (PySem.Str.ofString ".0", PySem.NameKind.local), (PySem.Str.ofString "_law_k", PySem.NameKind.local), (PySem.Str.ofString "_law_letters", PySem.NameKind.free), (PySem.Str.ofString "_law_stem", PySem.NameKind.free), (PySem.Str.ofString "_law_xs", PySem.NameKind.free)], isGenerator := false, isCoroutine := false, more := [] : PySem.Scope } := ⟨rfl, by decide +kernel, by decide +kernel, by decide +kernel, rfl, by decide +kernel, by decide +kernel, by decide +kernel, rfl⟩

section
variable {P : Program} {w : World} {K : PySem.W.Frag} {mg : Str → Option Value} {base : Heap} {t : Adr}
def F_names : List PyData → (PyData → Prop) → Prop := fun ds Q => ∃ (a b c d e : Int) (r : List PyData) (m : Int), ds = [.list (.int a :: .int b :: .int c :: .int d :: .int e :: r), .int m] ∧ 0 ≤ m ∧ m ≤ 50 ∧ ∀ ss : List Str, (ss.length : Int) = m → (∀ z ∈ ss, GoodS 20 z) → ss.Nodup → Q (.list (ss.map .str))
theorem mulL {c : Nat} {n : Int} (h0 : 0 ≤ n) : (PySem.Txt.mul ⟨#[c]⟩ n).cps.toList = List.replicate n.toNat c := by
  have key : ∀ (k : Nat) (a : Array Nat), ((List.replicate k #[c]).foldl (· ++ ·) a).toList = a.toList ++ List.replicate k c := by
    intro k
    induction k with
    | zero => intro a; simp
    | succ k ih => intro a; rw [List.replicate_succ, List.foldl_cons, ih]; simp [List.replicate_succ]
  unfold PySem.Txt.mul
  split
  · rw [show n.toNat = 0 by omega]; rfl
  · split
    · rename_i h
      have : n = 1 := by
        rw [show (⟨#[c]⟩ : Str).length = 1 from rfl] at h
        simpa using h
      subst this; rfl
    · show ((List.replicate n.toNat #[c]).foldl (· ++ ·) #[]).toList = _
      rw [key]; rfl
theorem mul_one {c : Nat} (hc : c < 0x110000) {n : Int} (h0 : 0 ≤ n) (h1 : n ≤ 50) : PySem.MulOk ⟨#[c]⟩ n ∧ GoodS n.toNat (PySem.Txt.mul ⟨#[c]⟩ n) := by
  have lc : (⟨#[c]⟩ : Str).length = 1 := rfl
  constructor
  · refine ⟨by simp; omega, fun a b => ?_, fun a b => ?_⟩
    · rw [lc]
      have : (2 ^ 63 - 1 : Int) / n ≥ 1 := by rw [ge_iff_le, Int.le_ediv_iff_mul_le (by omega)]; omega
      omega
    · rw [lc]
      obtain ⟨k, rfl⟩ := Int.eq_ofNat_of_zero_le h0
      rw [Nat.one_mul]
      unfold PySem.Builtin.Str.tooLong
      simp
      have : sizeLine = 16777216 := by first | rfl | decide | exact sizeLine_eq
      omega
  · have l := mulL (c := c) h0
    refine ⟨strOk_iff.mpr fun d hd => ?_, ?_⟩
    · rw [l] at hd
      rw [(List.mem_replicate.mp hd).2]; exact hc
    · show (PySem.Txt.mul ⟨#[c]⟩ n).cps.size ≤ _
      rw [← Array.length_toList, l, List.length_replicate]; exact Nat.le_refl _
theorem br4 {p x y A B C : Prop} {_ : Decidable p} {_ : Decidable x} {_ : Decidable y} (hA : p → A) (hB : p → B) (hC : C) : if p then (if x then A else if p then (if y then B else C) else C) else (if p then (if y then B else C) else C) := by
  by_cases hp : p
  · rw [if_pos hp, if_pos hp]
    split
    · exact hA hp
    · split
      · exact hB hp
      · exact hC
  · rw [if_neg hp, if_neg hp]; exact hC
def words8 : List Str := ["coming", "paper", "kind", "first", "rule", "last", "hold", "end"]
theorem words8_ok : ∀ z ∈ words8, GoodS 20 z := by
  intro z hz
  have a : words8.all (fun z => PyData.strOk z && decide (z.length ≤ 20)) = true := by decide +kernel
  have := List.all_eq_true.mp a z hz
  simp only [Bool.and_eq_true, decide_eq_true_eq] at this
  exact ⟨this.1, this.2⟩
theorem words8_nd : words8.Nodup := by decide +kernel
theorem mulLen {c : Nat} {n : Int} (h0 : 0 ≤ n) : (PySem.Txt.mul ⟨#[c]⟩ n).length = n.toNat := by
  show (PySem.Txt.mul ⟨#[c]⟩ n).cps.size = _
  rw [← Array.length_toList, mulL h0, List.length_replicate]
theorem abcAt_eq {j : Int} (h0 : 0 ≤ j) (h1 : j < 26) : (abcAt j : Int) = 97 + j := by
  have : ∀ k : Nat, k < 26 → abcAt (k : Int) = 97 + k := by decide +kernel
  obtain ⟨k, rfl⟩ := Int.eq_ofNat_of_zero_le h0
  rw [this k (by omega)]; omega
def nameK (x : Nat) (a r d e k : Int) : Str := PySem.Txt.mul ⟨#[x]⟩ a ++ (⟨#[abcAt ((d + 3 * (0 + k)) % 26)]⟩ ++ ⟨#[abcAt ((e + (0 + k) / 26) % 26)]⟩) ++ PySem.Txt.mul ⟨#[x]⟩ r
theorem nameK_inj {x : Nat} {a r d e k k' : Int} (h0 : 0 ≤ k) (h1 : k < 50) (h2 : 0 ≤ k') (h3 : k' < 50) (h : nameK x a r d e k = nameK x a r d e k') : k = k' := by
  have h := congrArg (fun z : Str => z.cps.toList) h
  unfold nameK at h
  simp only [cps_append, Array.toList_append] at h
  have h := List.append_cancel_left (List.append_cancel_right h)
  simp at h
  have e1 := abcAt_eq (j := (d + 3 * (0 + k)) % 26) (by omega) (by omega)
  have e2 := abcAt_eq (j := (d + 3 * (0 + k')) % 26) (by omega) (by omega)
  have e3 := abcAt_eq (j := (e + (0 + k) / 26) % 26) (by omega) (by omega)
  have e4 := abcAt_eq (j := (e + (0 + k') / 26) % 26) (by omega) (by omega)
  simp only [Int.zero_add] at e1 e2 e3 e4
  rw [h.1] at e1
  rw [h.2] at e3
  have f1 : (d + 3 * k) % 26 = (d + 3 * k') % 26 := by omega
  have f2 : (e + k / 26) % 26 = (e + k' / 26) % 26 := by omega
  clear e1 e2 e3 e4 h
  omega
def namesK (x : Nat) (a r d e : Int) (i : Nat) : List Str := (List.range i).map fun k : Nat => nameK x a r d e (k : Int)
theorem namesK_nd {x : Nat} {a r d e : Int} {i : Nat} (hi : i ≤ 50) : (namesK x a r d e i).Nodup := by
  unfold namesK
  rw [List.Nodup, List.pairwise_map]
  refine List.Pairwise.imp_of_mem (fun {k k'} hk hk' h z => ?_) List.nodup_range
  rw [List.mem_range] at hk hk'
  have := nameK_inj (by omega) (by omega) (by omega) (by omega) z
  exact h (by omega)
theorem namesK_succ {x : Nat} {a r d e : Int} {i : Nat} : namesK x a r d e (i + 1) = namesK x a r d e i ++ [nameK x a r d e i] := by
  unfold namesK; rw [List.range_succ, List.map_append]; rfl
theorem ok_names (T : Txt K mg t) : FnOk P w K mg base CX0 1 t.a__law_names t.d__law_names ["_law_xs", "_law_many"] (spD K F_names) := by
  refine T.F__law_names.okD sc__law_names (fun ds Q h => ?_) (fun cdv A outer s H O ds Q E hr h => ?_)
  · obtain ⟨a, b, c, d, e, r, m, rfl, _⟩ := h; rfl
  · obtain ⟨a, b, c, d, e, r, m, rfl, m0, m1, q⟩ := h
    refine' ⟨_, ?body, ?read⟩
    case body =>
      refine' dss_cons ?s1 ?r1
      case s1 =>
        exact (ds_set (i := 2) sc__law_names.nd rfl (by first | exact Or.inl rfl | exact Or.inr rfl) de_str)
      case r1 =>
        refine' dss_cons ?s3 ?r3
        case s3 =>
          refine' ds_set (i := 3) sc__law_names.nd rfl (by first | exact Or.inl rfl | exact Or.inr rfl) ?e4 (hs := swaps_Subscript)
          case e4 =>
            exact (de_ix ix_str od_ixS (df (dv 2)) (df (de_op op_mod od_intC (df (de_ix ix_list od_ixL (df (dv 0)) (df de_int))) (df de_int))))
        case r3 =>
          refine' dss_cons ?s6 ?r6
          case s6 =>
            refine' ds_if ?c7 ?a7 ?b7
            case c7 => exact (PW.pt (dw_and (dt_cmp op_lt od_bl (df (dv 1)) (df de_int) (nomark _)) (dw_and1 (dt_cmp (op_eqX hr.units) od_eq (df (de_op op_mod od_intC (df (de_ix ix_list od_ixL (df (dv 0)) (df de_int))) (df de_int))) (df de_int) (nomark _)))))
            case a7 =>
              refine' dss_one ?s8
              case s8 =>
                refine' ds_ret ?e9
                case e9 =>
                  refine' fe ?f10
                  case f10 =>
                    exact (fe_compRI rfl cs__law_names_0 rfl T.n_range (db_cons (df (dv 1)) db_nil) gd_name keepName (by decide) (fun _ _ _ _ => (pg_name (i := 0) cs__law_names_0.nd rfl (by first | exact Or.inl rfl | exact Or.inr rfl))) (fun _ _ _ _ => pf_nilD) (fun _ _ _ _ => (de_op op_add_str od_addS (df (de_ix ix_str od_ixS (df (dv 1)) (df (de_op op_mod od_intC (df (de_ix ix_list od_ixL (df (dv 3)) (df de_int))) (df de_int))))) (df (de_op op_mulS od_mulS (df (dv 2)) (df (dv 0)))))))
            case b7 =>
              exact dss_nil
          case r6 =>
            refine' dss_cons ?s12 ?r12
            case s12 =>
              refine' ds_if ?c13 ?a13 ?b13
              case c13 => exact (PW.pt (dw_and (dt_cmp op_lt od_bl (df (dv 1)) (df de_int) (nomark _)) (dw_and1 (dt_cmp (op_eqX hr.units) od_eq (df (de_op op_mod od_intC (df (de_ix ix_list od_ixL (df (dv 0)) (df de_int))) (df de_int))) (df de_int) (nomark _)))))
              case a13 =>
                refine' dss_one ?s14
                case s14 =>
                  generalize hE15_0 : Expr.List _ _ = ee15_0
                  exact (ds_ret (fe (fe_slice (df (fe (fe_lits (ds := [.str "coming", .str "paper", .str "kind", .str "first", .str "rule", .str "last", .str "hold", .str "end"]) (by first | (subst hE15_0; rfl))))) do_none (do_some (dv 1)))))
              case b13 =>
                exact dss_nil
            case r12 =>
              refine' dss_cons ?s16 ?r16
              case s16 =>
                refine' ds_set (i := 4) sc__law_names.nd rfl (by first | exact Or.inl rfl | exact Or.inr rfl) ?e17 (hs := swaps_BinOp)
                case e17 =>
                  exact (de_op op_add od_int (df de_int) (df (de_op op_mod od_intC (df (de_op op_fdiv od_intC (df (de_ix ix_list od_ixL (df (dv 0)) (df de_int))) (df de_int))) (df de_int))))
              case r16 =>
                refine' dss_cons ?s19 ?r19
                case s19 =>
                  refine' ds_set (i := 5) sc__law_names.nd rfl (by first | exact Or.inl rfl | exact Or.inr rfl) ?e20 (hs := swaps_BinOp)
                  case e20 =>
                    exact (de_op op_mod od_intC (df (de_ix ix_list od_ixL (df (dv 0)) (df de_int))) (df (de_op op_sub od_int (df (dv 4)) (df de_int))))
                case r19 =>
                  refine' dss_cons ?s22 ?r22
                  case s22 =>
                    exact (ds_new (i := 6) sc__law_names.nd rfl (by first | exact Or.inl rfl | exact Or.inr rfl) (fe_lst da_nil))
                  case r22 =>
                    refine' dss_cons ?s24 ?r24
                    case s24 =>
                      refine' ds_forRI PassesOwn.never rfl rfl T.n_range (da_cons (dv 1) da_nil) ?a25 gd_name ?b25
                      case a25 => exact (pg_name (i := 7) sc__law_names.nd rfl (by first | exact Or.inl rfl | exact Or.inr rfl))
                      case b25 =>
                        refine' dss_cons ?s26 ?r26
                        case s26 =>
                          generalize hG27 : Expr.BinOp _ _ _ _ = eg27
                          refine' ds_set (i := 8) sc__law_names.nd rfl (by first | exact Or.inl rfl | exact Or.inr rfl) ?e27 (hs := by subst hG27; exact swaps_BinOp)
                          case e27 =>
                            subst hG27
                            exact (de_op op_add_str od_addS (df (de_ix ix_str od_ixS (df (dv 2)) (df (de_op op_mod od_intC (df (de_op op_add od_int (df (de_ix ix_list od_ixL (df (dv 0)) (df de_int))) (df (de_op op_mul od_intC (df de_int) (df (dv 7)))))) (df de_int))))) (df (de_ix ix_str od_ixS (df (dv 2)) (df (de_op op_mod od_intC (df (de_op op_add od_int (df (de_ix ix_list od_ixL (df (dv 0)) (df de_int))) (df (de_op op_fdiv od_intC (df (dv 7)) (df de_int))))) (df de_int))))))
                        case r26 =>
                          refine' dss_one ?s29
                          case s29 =>
                            refine' ds_app (i := 6) (pv 6) ?e30
                            case e30 =>
                              exact (de_op op_add_str od_addS (df (de_op op_add_str od_addS (df (de_op op_mulS od_mulS (df (dv 3)) (df (dv 5)))) (df (dv 8)))) (df (de_op op_mulS od_mulS (df (dv 3)) (df (de_op op_sub od_int (df (de_op op_sub od_int (df (dv 4)) (df de_int))) (df (dv 5)))))))
                    case r24 =>
                      refine' dss_one ?s32
                      case s32 =>
                        exact (ds_retO (pv 6))
    case read =>
    clear hr T
    simp only [atI_c0, atI_c1, atI_c2, atI_c3, atI_c4, ↓lz_w, ↓lz_k0, ↓lz_kS, ↓lz_kE, ↓lz_kN, ↓lz_ks, ↓lz_ki, ↓lz_wN, ↓lz_v0, ↓lz_vS, ↓lz_vE, ↓lz_vN, ↓lz_o0, ↓lz_oS, ↓lz_oE, ↓lz_oN, ↓lz_b, ↓lz_i, ↓lz_s, ↓lz_t, ↓lz_l, ↓lz_ii, ↓lz_ss, ↓lz_tt, ↓lz_ll, ↓lz_cons, ↓lz_two, ↓lz_tt0, ↓lz_tt1, ↓lz_tt2, ↓lz_tt3, ↓lz_ll0, ↓lz_ll1, ↓lz_ll2, ↓lz_tix, ↓lz_lix, dSeq, dNext, dIfS, dRet, dRetO, dDrop, dSet, dNew, dApp, dAsg, dPar, dFrz, dVar, dOwn, dC, dOp, dI, dIC, dEq, dNe, dIn, dIxL, dIxT, dIxS, dAddS, dCatT, dCat, dL, dFin, dTup, dLst, dNil, dCons, dTest, dAnd, dOr, dNot, dAndV, dOrV, dNotV, dIf, dChain, dCall, dCallS, dCallN, wq_paper_happens, wq_paper_rule, wq_paper_end, wq_paper_hold, wq_paper_lift, wq_paper_leave, wq_happens_paper, wq_happens_rule, wq_happens_end, wq_happens_hold, wq_happens_lift, wq_happens_leave, wq_rule_paper, wq_rule_happens, wq_rule_end, wq_rule_hold, wq_rule_lift, wq_rule_leave, wq_end_paper, wq_end_happens, wq_end_rule, wq_end_hold, wq_end_lift, wq_end_leave, wq_hold_paper, wq_hold_happens, wq_hold_rule, wq_hold_end, wq_hold_lift, wq_hold_leave, wq_lift_paper, wq_lift_happens, wq_lift_rule, wq_lift_end, wq_lift_hold, wq_lift_leave, wq_leave_paper, wq_leave_happens, wq_leave_rule, wq_leave_end, wq_leave_hold, wq_leave_lift, dRep2, dSlL, dSlT, dSlS, dLits, dSel, dRev, dNoPart, dPart, dLen, dLenS, dTupOf, dAny, dTwo, dIsin, dJoin, dInt, dListOf, dYes, dComp, dCompT, dCompR, dFor, dForT, dForR, dForR2, dForI, dForTI, dForRI, dForR2I, dSlX, dDct0, dNeg, dUpper, dRevT, dRepT, cD_nm1, dInX, dLenT, dLtS, dInS, dEqZ, dInZ, dSortS, dCompSI, dCompR2I, dStrI, dIntT, dZfill, dSplit, dJs, dNever, dLtU, dNewK, dEmp, dPutK, dGetK, dGet1K, dInK, dSortK, dIsN, dNotN, dMulS, dIxSc, dSlSc, dAbs, dPar3, dExt, dMaxL, dForDK, dDisp, dPairs, dSortSet, dFrzK, dGetD, dSortPr, dSortKey, dLtP, dIndex, dListRg, dCompV, dCatX, take_iff, cD_1n, cD_2n, cD_3n, cD_4n, cD_n1, cD_n2, cD_n3, cD_n4, cD_13, ne_eq, thing_str, thing_int, thing_bool, thing_tup, thing_list, strsE1, strsE2, strsE3, dCompI, dCompTI, dCompRI, dgName, dgTup, dgCons, dgNil, forW, startD, dst0, CDiv, CPow, CMul, List.map_cons, List.map_nil, List.length_cons, List.length_nil, List.replicate, List.cons_append, List.nil_append, List.append_nil, Nat.reduceAdd, Nat.reduceSub, Nat.add_zero, Nat.zero_add, Nat.sub_self, List.getElem?_cons_zero, List.getElem?_cons_succ, List.getElem?_nil, List.set_cons_zero, List.set_cons_succ, Option.some.injEq, exists_eq_left', exists_eq_left, exists_and_left, exists_and_right, Option.join_some, Option.join_none, Sl.v.injEq, Sl.o.injEq, Sl.k.injEq, PyData.int.injEq, PyData.bool.injEq, PyData.str.injEq, PyData.tuple.injEq, PyData.list.injEq, List.cons.injEq, and_true, true_and, Nat.reduceLT, Nat.reduceLeDiff, exists_const, decide_eq_true_eq, Int.reduceLT, Int.reduceLE, Int.reduceNeg, Int.reducePow, Bool.not_eq_true', decide_eq_false_iff_not, and_assoc, or_true, true_or, ↓reduceIte, if_true, if_false, Bool.false_eq_true, Bool.true_eq_false, not_true_eq_false, not_false_eq_true, Bool.not_true, Bool.not_false, ite_true, ite_false, eq_self, exists_eq, reduceCtorEq, false_and, and_false, or_false, false_or, exists_false, Option.map_some, Option.map_none, scalD, List.all_cons, List.all_nil, List.any_cons, List.any_nil, Bool.and_true, Bool.or_false, Bool.true_and, Bool.false_or, atI_c0, atI_c1, atI_c2, atI_c3, atI_c4, eqv_str, eqv_int, eqv_bool, beq_self_eq_true, shp_int, shp_bl, shp_non, Shp, sizeLine_eq]
    obtain ⟨x, e1, _, x1⟩ := abc_at (j := a % 26) (by omega) (by omega)
    refine ⟨by decide +kernel, x, e1, ?_⟩
    refine br4 (fun hm => ?_) (fun hm => ?_) ?_
    · refine ⟨by omega, by have : (16777216 : Nat) = (16777216 : Int) := rfl; omega, ?_⟩
      refine ⟨fun i acc => ∃ ys : List Str, acc = ys.map .str ∧ ys.length = i ∧ (∀ y ∈ ys, GoodS 20 y) ∧ (∀ y ∈ ys, y.length ≤ i) ∧ ys.Nodup, ⟨[], rfl, rfl, by simp, by simp, by simp⟩, ?_, ?_⟩
      · rintro i z acc hz ⟨ys, rfl, hl, hg, hs, hnd⟩
        obtain ⟨hi, rfl⟩ := rangeD_at hz
        simp only [atI_c0, atI_c1, atI_c2, atI_c3, atI_c4, ↓lz_w, ↓lz_k0, ↓lz_kS, ↓lz_kE, ↓lz_kN, ↓lz_ks, ↓lz_ki, ↓lz_wN, ↓lz_v0, ↓lz_vS, ↓lz_vE, ↓lz_vN, ↓lz_o0, ↓lz_oS, ↓lz_oE, ↓lz_oN, ↓lz_b, ↓lz_i, ↓lz_s, ↓lz_t, ↓lz_l, ↓lz_ii, ↓lz_ss, ↓lz_tt, ↓lz_ll, ↓lz_cons, ↓lz_two, ↓lz_tt0, ↓lz_tt1, ↓lz_tt2, ↓lz_tt3, ↓lz_ll0, ↓lz_ll1, ↓lz_ll2, ↓lz_tix, ↓lz_lix, dSeq, dNext, dIfS, dRet, dRetO, dDrop, dSet, dNew, dApp, dAsg, dPar, dFrz, dVar, dOwn, dC, dOp, dI, dIC, dEq, dNe, dIn, dIxL, dIxT, dIxS, dAddS, dCatT, dCat, dL, dFin, dTup, dLst, dNil, dCons, dTest, dAnd, dOr, dNot, dAndV, dOrV, dNotV, dIf, dChain, dCall, dCallS, dCallN, wq_paper_happens, wq_paper_rule, wq_paper_end, wq_paper_hold, wq_paper_lift, wq_paper_leave, wq_happens_paper, wq_happens_rule, wq_happens_end, wq_happens_hold, wq_happens_lift, wq_happens_leave, wq_rule_paper, wq_rule_happens, wq_rule_end, wq_rule_hold, wq_rule_lift, wq_rule_leave, wq_end_paper, wq_end_happens, wq_end_rule, wq_end_hold, wq_end_lift, wq_end_leave, wq_hold_paper, wq_hold_happens, wq_hold_rule, wq_hold_end, wq_hold_lift, wq_hold_leave, wq_lift_paper, wq_lift_happens, wq_lift_rule, wq_lift_end, wq_lift_hold, wq_lift_leave, wq_leave_paper, wq_leave_happens, wq_leave_rule, wq_leave_end, wq_leave_hold, wq_leave_lift, dRep2, dSlL, dSlT, dSlS, dLits, dSel, dRev, dNoPart, dPart, dLen, dLenS, dTupOf, dAny, dTwo, dIsin, dJoin, dInt, dListOf, dYes, dComp, dCompT, dCompR, dFor, dForT, dForR, dForR2, dForI, dForTI, dForRI, dForR2I, dSlX, dDct0, dNeg, dUpper, dRevT, dRepT, cD_nm1, dInX, dLenT, dLtS, dInS, dEqZ, dInZ, dSortS, dCompSI, dCompR2I, dStrI, dIntT, dZfill, dSplit, dJs, dNever, dLtU, dNewK, dEmp, dPutK, dGetK, dGet1K, dInK, dSortK, dIsN, dNotN, dMulS, dIxSc, dSlSc, dAbs, dPar3, dExt, dMaxL, dForDK, dDisp, dPairs, dSortSet, dFrzK, dGetD, dSortPr, dSortKey, dLtP, dIndex, dListRg, dCompV, dCatX, take_iff, cD_1n, cD_2n, cD_3n, cD_4n, cD_n1, cD_n2, cD_n3, cD_n4, cD_13, ne_eq, thing_str, thing_int, thing_bool, thing_tup, thing_list, strsE1, strsE2, strsE3, dCompI, dCompTI, dCompRI, dgName, dgTup, dgCons, dgNil, forW, startD, dst0, CDiv, CPow, CMul, List.map_cons, List.map_nil, List.length_cons, List.length_nil, List.replicate, List.cons_append, List.nil_append, List.append_nil, Nat.reduceAdd, Nat.reduceSub, Nat.add_zero, Nat.zero_add, Nat.sub_self, List.getElem?_cons_zero, List.getElem?_cons_succ, List.getElem?_nil, List.set_cons_zero, List.set_cons_succ, Option.some.injEq, exists_eq_left', exists_eq_left, exists_and_left, exists_and_right, Option.join_some, Option.join_none, Sl.v.injEq, Sl.o.injEq, Sl.k.injEq, PyData.int.injEq, PyData.bool.injEq, PyData.str.injEq, PyData.tuple.injEq, PyData.list.injEq, List.cons.injEq, and_true, true_and, Nat.reduceLT, Nat.reduceLeDiff, exists_const, decide_eq_true_eq, Int.reduceLT, Int.reduceLE, Int.reduceNeg, Int.reducePow, Bool.not_eq_true', decide_eq_false_iff_not, and_assoc, or_true, true_or, ↓reduceIte, if_true, if_false, Bool.false_eq_true, Bool.true_eq_false, not_true_eq_false, not_false_eq_true, Bool.not_true, Bool.not_false, ite_true, ite_false, eq_self, exists_eq, reduceCtorEq, false_and, and_false, or_false, false_or, exists_false, Option.map_some, Option.map_none, scalD, List.all_cons, List.all_nil, List.any_cons, List.any_nil, Bool.and_true, Bool.or_false, Bool.true_and, Bool.false_or, atI_c0, atI_c1, atI_c2, atI_c3, atI_c4, eqv_str, eqv_int, eqv_bool, beq_self_eq_true, shp_int, shp_bl, shp_non, Shp, sizeLine_eq]
        obtain ⟨y, g1, _, y1⟩ := abc_at (j := c % 26) (by omega) (by omega)
        obtain ⟨mo, mg⟩ := mul_one x1 (n := 0 + (i : Int)) (by omega) (by omega)
        have ml := mg.le
        have lc : (⟨#[y]⟩ : Str).length = 1 := rfl
        have lm : m.toNat < 9 := by omega
        refine ⟨by decide +kernel, y, g1, mo, by rw [lc]; omega, ys ++ [⟨#[y]⟩ ++ PySem.Txt.mul ⟨#[x]⟩ (0 + (i : Int))], by rw [List.map_append]; rfl, by simp [hl], fun z hz => ?_, fun z hz => ?_, ?_⟩
        · rcases List.mem_append.mp hz with h | h
          · exact hg z h
          · rw [List.mem_singleton] at h; rw [h]; exact ((GoodS.chr y1).append mg).mono (by omega)
        · rcases List.mem_append.mp hz with h | h
          · exact Nat.le_succ_of_le (hs z h)
          · rw [List.mem_singleton] at h; rw [h, len_append, lc, mulLen (by omega)]; omega
        · rw [List.nodup_append]
          refine ⟨hnd, by simp, fun a ha b hb e => ?_⟩
          rw [List.mem_singleton] at hb
          have l1 := hs a ha
          rw [e, hb, len_append, lc, mulLen (by omega)] at l1
          omega
      · rintro acc ⟨ys, rfl, hl, hg, hs, hnd⟩
        rw [rangeD_len] at hl
        exact q ys (by omega) hg hnd
    · obtain ⟨k, rfl⟩ := Int.eq_ofNat_of_zero_le m0
      rw [cutD_take (by omega) (by simp; omega)]
      rw [show ∀ l : List PyData, l.take ((k : Int)).toNat = l.take k from fun l => by simp]
      have ew := (List.map_take (f := PyData.str) (l := words8) (i := k)).symm
      refine Eq.mp (congrArg (fun z => Q (PyData.list z)) ew.symm) ?_
      refine q (words8.take k) ?_ (fun z hz => words8_ok z (List.mem_of_mem_take hz)) (words8_nd.sublist (List.take_sublist _ _))
      rw [List.length_take, show words8.length = 8 from rfl]; omega
    · refine ⟨by omega, by omega, by omega, ?_⟩
      generalize hsz : 2 + b / 4 % 7 = sz
      have s0 : 2 ≤ sz := by omega
      have s1 : sz ≤ 8 := by omega
      generalize hat : c % (sz - 1) = at0
      have a0 : 0 ≤ at0 := by rw [← hat]; exact Int.emod_nonneg _ (by omega)
      have a1 : at0 < sz - 1 := by rw [← hat]; exact Int.emod_lt_of_pos _ (by omega)
      obtain ⟨mo, gg⟩ := mul_one x1 a0 (by omega)
      obtain ⟨mo2, gg2⟩ := mul_one x1 (n := sz - 2 - at0) (by omega) (by omega)
      clear hsz hat
      refine ⟨fun i δ => ∃ (o7 o8 : Option Sl), (∀ z ∈ namesK x at0 (sz - 2 - at0) d e i, GoodS 20 z) ∧ δ = [some (Sl.v (PyData.list (PyData.int a :: PyData.int b :: PyData.int c :: PyData.int d :: PyData.int e :: r))),
        some (Sl.v (PyData.int m)), some (Sl.v (PyData.str (Str.ofString "abcdefghijklmnopqrstuvwxyz"))), some (Sl.v (PyData.str { cps := #[x] })), some (Sl.v (PyData.int sz)),
        some (Sl.v (PyData.int at0)), some (Sl.o ((namesK x at0 (sz - 2 - at0) d e i).map .str)), o7, o8], ⟨_, _, by simp [namesK], rfl⟩, ?_, ?_⟩
      · rintro i z δ hz ⟨o7, o8, hg, rfl⟩
        obtain ⟨hi, rfl⟩ := rangeD_at hz
        simp only [atI_c0, atI_c1, atI_c2, atI_c3, atI_c4, ↓lz_w, ↓lz_k0, ↓lz_kS, ↓lz_kE, ↓lz_kN, ↓lz_ks, ↓lz_ki, ↓lz_wN, ↓lz_v0, ↓lz_vS, ↓lz_vE, ↓lz_vN, ↓lz_o0, ↓lz_oS, ↓lz_oE, ↓lz_oN, ↓lz_b, ↓lz_i, ↓lz_s, ↓lz_t, ↓lz_l, ↓lz_ii, ↓lz_ss, ↓lz_tt, ↓lz_ll, ↓lz_cons, ↓lz_two, ↓lz_tt0, ↓lz_tt1, ↓lz_tt2, ↓lz_tt3, ↓lz_ll0, ↓lz_ll1, ↓lz_ll2, ↓lz_tix, ↓lz_lix, dSeq, dNext, dIfS, dRet, dRetO, dDrop, dSet, dNew, dApp, dAsg, dPar, dFrz, dVar, dOwn, dC, dOp, dI, dIC, dEq, dNe, dIn, dIxL, dIxT, dIxS, dAddS, dCatT, dCat, dL, dFin, dTup, dLst, dNil, dCons, dTest, dAnd, dOr, dNot, dAndV, dOrV, dNotV, dIf, dChain, dCall, dCallS, dCallN, wq_paper_happens, wq_paper_rule, wq_paper_end, wq_paper_hold, wq_paper_lift, wq_paper_leave, wq_happens_paper, wq_happens_rule, wq_happens_end, wq_happens_hold, wq_happens_lift, wq_happens_leave, wq_rule_paper, wq_rule_happens, wq_rule_end, wq_rule_hold, wq_rule_lift, wq_rule_leave, wq_end_paper, wq_end_happens, wq_end_rule, wq_end_hold, wq_end_lift, wq_end_leave, wq_hold_paper, wq_hold_happens, wq_hold_rule, wq_hold_end, wq_hold_lift, wq_hold_leave, wq_lift_paper, wq_lift_happens, wq_lift_rule, wq_lift_end, wq_lift_hold, wq_lift_leave, wq_leave_paper, wq_leave_happens, wq_leave_rule, wq_leave_end, wq_leave_hold, wq_leave_lift, dRep2, dSlL, dSlT, dSlS, dLits, dSel, dRev, dNoPart, dPart, dLen, dLenS, dTupOf, dAny, dTwo, dIsin, dJoin, dInt, dListOf, dYes, dComp, dCompT, dCompR, dFor, dForT, dForR, dForR2, dForI, dForTI, dForRI, dForR2I, dSlX, dDct0, dNeg, dUpper, dRevT, dRepT, cD_nm1, dInX, dLenT, dLtS, dInS, dEqZ, dInZ, dSortS, dCompSI, dCompR2I, dStrI, dIntT, dZfill, dSplit, dJs, dNever, dLtU, dNewK, dEmp, dPutK, dGetK, dGet1K, dInK, dSortK, dIsN, dNotN, dMulS, dIxSc, dSlSc, dAbs, dPar3, dExt, dMaxL, dForDK, dDisp, dPairs, dSortSet, dFrzK, dGetD, dSortPr, dSortKey, dLtP, dIndex, dListRg, dCompV, dCatX, take_iff, cD_1n, cD_2n, cD_3n, cD_4n, cD_n1, cD_n2, cD_n3, cD_n4, cD_13, ne_eq, thing_str, thing_int, thing_bool, thing_tup, thing_list, strsE1, strsE2, strsE3, dCompI, dCompTI, dCompRI, dgName, dgTup, dgCons, dgNil, forW, startD, dst0, CDiv, CPow, CMul, List.map_cons, List.map_nil, List.length_cons, List.length_nil, List.replicate, List.cons_append, List.nil_append, List.append_nil, Nat.reduceAdd, Nat.reduceSub, Nat.add_zero, Nat.zero_add, Nat.sub_self, List.getElem?_cons_zero, List.getElem?_cons_succ, List.getElem?_nil, List.set_cons_zero, List.set_cons_succ, Option.some.injEq, exists_eq_left', exists_eq_left, exists_and_left, exists_and_right, Option.join_some, Option.join_none, Sl.v.injEq, Sl.o.injEq, Sl.k.injEq, PyData.int.injEq, PyData.bool.injEq, PyData.str.injEq, PyData.tuple.injEq, PyData.list.injEq, List.cons.injEq, and_true, true_and, Nat.reduceLT, Nat.reduceLeDiff, exists_const, decide_eq_true_eq, Int.reduceLT, Int.reduceLE, Int.reduceNeg, Int.reducePow, Bool.not_eq_true', decide_eq_false_iff_not, and_assoc, or_true, true_or, ↓reduceIte, if_true, if_false, Bool.false_eq_true, Bool.true_eq_false, not_true_eq_false, not_false_eq_true, Bool.not_true, Bool.not_false, ite_true, ite_false, eq_self, exists_eq, reduceCtorEq, false_and, and_false, or_false, false_or, exists_false, Option.map_some, Option.map_none, scalD, List.all_cons, List.all_nil, List.any_cons, List.any_nil, Bool.and_true, Bool.or_false, Bool.true_and, Bool.false_or, atI_c0, atI_c1, atI_c2, atI_c3, atI_c4, eqv_str, eqv_int, eqv_bool, beq_self_eq_true, shp_int, shp_bl, shp_non, Shp, sizeLine_eq]
        obtain ⟨g1, y1⟩ := abcAt_at (j := (d + 3 * (0 + (i : Int))) % 26) (by omega) (by omega)
        obtain ⟨g2, v1⟩ := abcAt_at (j := (e + (0 + (i : Int)) / 26) % 26) (by omega) (by omega)
        have ly : ∀ y : Nat, (⟨#[y]⟩ : Str).length = 1 := fun _ => rfl
        have l1 := gg.le
        have l2 := gg2.le
        have ga := (gg.append ((GoodS.chr y1).append (GoodS.chr v1))).append gg2
        refine ⟨by decide +kernel, _, g1, by decide +kernel, _, g2, by rw [ly, ly]; decide, mo, by rw [len_append, ly, ly]; omega, mo2, by rw [len_append, len_append, ly, ly]; omega, by rw [List.length_map, namesK, List.length_map, List.length_range]; omega, fun z hz => ?_, by rw [namesK_succ, List.map_append]; rfl, _, rfl⟩
        rw [namesK_succ] at hz
        rcases List.mem_append.mp hz with h | h
        · exact hg z h
        · rw [List.mem_singleton] at h; rw [h]; exact ga.mono (by omega)
      · rintro δ ⟨o7, o8, hg, rfl⟩
        walk_at "rz"
        rw [rangeD_len] at hg ⊢
        exact q _ (by rw [namesK, List.length_map, List.length_range]; omega) hg (namesK_nd (by omega))
end
end K10

open PySem L2

namespace K10
theorem cs__law_told_0 : CompScope (defScope s__law_told) ["_law_xs", "_law_names_here", "_law_k", "_law_web", "_law_pool"] ["_law_j", "_law_pool", "_law_xs"] 1 [4, 0] { kind := PySem.ScopeKind.function, names := [ (PySem.Str.ofString ".0", PySem.NameKind.local), (PySem.Str.ofString "_law_j", PySem.NameKind.local), (PySem.Str.ofString "len", PySem.NameKind.globalImplicit), (PySem.Str.ofString "_law_pool", PySem.NameKind.free), (PySem.Str.ofString "_law_xs", PySem.NameKind.free)], isGenerator := false, isCoroutine := false, more := [] : PySem.Scope } := ⟨rfl, by decide +kernel, by decide +kernel, by decide +kernel, rfl, by decide +kernel, by decide +kernel, by decide +kernel, rfl⟩

section
variable {P : Program} {w : World} {K : PySem.W.Frag} {mg : Str → Option Value} {base : Heap} {t : Adr}
theorem cutD_strs {ns : List Str} {lo hi : Option Int} : ∃ ss : List Str, cutD (ns.map .str) lo hi = ss.map .str ∧ (∀ z ∈ ss, z ∈ ns) ∧ ss.length ≤ ns.length := by
  unfold cutD
  refine ⟨(ns.drop (HT.sIx (ns.map PyData.str).length 0 lo)).take (HT.sIx (ns.map PyData.str).length (ns.map PyData.str).length hi - HT.sIx (ns.map PyData.str).length 0 lo), by rw [List.map_take, List.map_drop], fun z hz => List.mem_of_mem_drop (List.mem_of_mem_take hz), ?_⟩
  rw [List.length_take, List.length_drop]; omega
theorem lay_lst {n : Nat} {ds : List PyData} (h : ∀ d ∈ ds, Lay n d) : Lay (n + 1) (.list ds) := by
  obtain ⟨a, b⟩ := lay_all h
  refine ⟨by simpa [PyData.canLay0] using a, ?_⟩
  rw [PyData.depth]; omega
def F_told : List PyData → (PyData → Prop) → Prop := fun ds Q => ∃ (y0 y1 y2 y3 y4 y5 y6 y7 : Int) (ns : List Str) (k web : Int), ds = [.list [.int y0, .int y1, .int y2, .int y3, .int y4, .int y5, .int y6, .int y7], .list (ns.map .str), .int k, .int web] ∧ 0 ≤ k ∧ k ≤ ns.length ∧ ns.length ≤ 50 ∧ (∀ z ∈ ns, PyData.strOk z = true) ∧ ∀ ss : List Str, (∀ z ∈ ss, z ∈ ns) → ss.length ≤ 50 → Q (.list (ss.map .str))
theorem ok_told (T : Txt K mg t) : FnOk P w K mg base CX0 1 t.a__law_told t.d__law_told ["_law_xs", "_law_names_here", "_law_k", "_law_web"] (spD K F_told) := by
  refine T.F__law_told.okD sc__law_told (fun ds Q h => ?_) (fun cdv A outer s H O ds Q E hr h => ?_)
  · obtain ⟨y0, y1, y2, y3, y4, y5, y6, y7, ns, k, web, rfl, _⟩ := h; rfl
  · obtain ⟨y0, y1, y2, y3, y4, y5, y6, y7, ns, k, web, rfl, k0, k1, nl, ng, q⟩ := h
    refine' ⟨_, ?body, ?read⟩
    case body =>
      refine' dss_cons ?s1 ?r1
      case s1 =>
        refine' ds_if ?c2 ?a2 ?b2
        case c2 => exact (dt_cmp (op_eqX hr.units) od_eq (df (dv 3)) (df de_int) (nomark _))
        case a2 =>
          refine' dss_one ?s3
          case s3 =>
            refine' ds_ret ?e4
            case e4 =>
              refine' fe ?f5
              case f5 =>
                exact (fe_slice (df (dv 1)) (do_some (PE.imp (pe_callB (call_max2 rfl) rfl T.n_max PyProof.Rows.boot_max (db_cons (df de_int) (db_cons (df (de_op op_sub od_int (df (dv 2)) (df de_int))) db_nil))) (dcb cd_two))) (do_some (dv 2)))
        case b2 =>
          exact dss_nil
      case r1 =>
        refine' dss_cons ?s7 ?r7
        case s7 =>
          refine' ds_if ?c8 ?a8 ?b8
          case c8 => exact (dt_cmp (op_eqX hr.units) od_eq (df (dv 3)) (df de_int) (nomark _))
          case a8 =>
            refine' dss_one ?s9
            case s9 =>
              refine' ds_ret ?e10
              case e10 =>
                refine' fe ?f11
                case f11 =>
                  exact (fe_slice (df (dv 1)) (do_some (PE.imp (pe_callB (call_max2 rfl) rfl T.n_max PyProof.Rows.boot_max (db_cons (df de_int) (db_cons (df (de_op op_sub od_int (df (dv 2)) (df de_int))) db_nil))) (dcb cd_two))) (do_some (dv 2)))
          case b8 =>
            exact dss_nil
        case r7 =>
          refine' dss_cons ?s13 ?r13
          case s13 =>
            refine' ds_set (i := 4) sc__law_told.nd rfl (by first | exact Or.inl rfl | exact Or.inr rfl) ?e14 (hs := swaps_Subscript)
            case e14 =>
              refine' de_ix ix_list od_ixL (df ?a15) ?b15
              case a15 =>
                exact (fe (fe_lst (da_cons (fe (fe_slice (df (dv 1)) do_none (do_some (dv 2)))) (da_cons (dv 1) da_nil))))
              case b15 => exact (df (PE.imp (pe_callTy call_int1 rfl T.n_int bt_int (db_cons (df (de_cmp (op_eqX hr.units) od_eq (df (dv 3)) (df de_int) (nomark _))) db_nil)) (dcb cd_int)))
          case r13 =>
            refine' dss_cons ?s17 ?r17
            case s17 =>
              refine' ds_if ?c18 ?a18 ?b18
              case c18 => exact (dt_cmp (op_eqX hr.units) od_eq (df (dv 4)) (df (fe (fe_lst da_nil))) (nomark _))
              case a18 =>
                refine' dss_one ?s19
                case s19 =>
                  exact (ds_ret (fe (fe_lst da_nil)))
              case b18 =>
                exact dss_nil
            case r17 =>
              refine' dss_one ?s21
              case s21 =>
                refine' ds_ret ?e22
                case e22 =>
                  refine' fe ?f23
                  case f23 =>
                    exact (fe_compRI rfl cs__law_told_0 rfl T.n_range (db_cons (df (de_op op_mod od_intC (df (de_ix ix_list od_ixL (df (dv 0)) (df de_int))) (df de_int))) db_nil) gd_name keepName (by decide) (fun _ _ _ _ => (pg_name (i := 0) cs__law_told_0.nd rfl (by first | exact Or.inl rfl | exact Or.inr rfl))) (fun _ _ _ _ => pf_nilD) (fun _ _ _ _ => (de_ix ix_list od_ixL (df (dv 1)) (df (de_op op_mod od_intC (df (de_ix ix_list od_ixL (df (dv 2)) (df (de_op op_add od_int (df de_int) (df (dv 0)))))) (df (PE.imp (pe_callB call_len_seq rfl T.n_len PySem.boot_len (db_cons (df (dv 1)) db_nil)) (dcb cd_len))))))))
    case read =>
    clear hr T
    walk_at "rz"
    have cut : ∀ lo hi, Q (.list (cutD (ns.map .str) lo hi)) := fun lo hi => by
      obtain ⟨ss, e, h1, h2⟩ := cutD_strs (ns := ns) (lo := lo) (hi := hi)
      rw [e]; exact q ss h1 (by omega)
    split
    · exact cut _ _
    split
    · exact cut _ _
    have hd : ∃ ps : List Str, atI [PyData.list (cutD (List.map PyData.str ns) none (some k)), PyData.list (List.map PyData.str ns)] (if (web == 3) = true then 1 else 0) = some (.list (ps.map .str)) ∧ (∀ z ∈ ps, z ∈ ns) ∧ ps.length ≤ ns.length := by
      split
      · exact ⟨ns, atI_c1, fun _ z => z, Nat.le_refl _⟩
      · obtain ⟨ss, e, h1, h2⟩ := cutD_strs (ns := ns) (lo := none) (hi := some k)
        exact ⟨ss, by rw [e]; exact atI_c0, h1, h2⟩
    obtain ⟨ps, e, h1, h2⟩ := hd
    refine ⟨_, e, ?_, by decide +kernel, ?_⟩
    · exact (lay_lst (n := 1) (lay_strs fun m hm => ng m (h1 m hm))).shp (by decide)
    · split
      · exact q [] (by simp) (by simp)
      · rename_i hne
        have p0 : 0 < ps.length := by
          cases ps with
          | nil => exact absurd (by rfl) hne
          | cons a l => simp
        refine ⟨by omega, by have : (16777216 : Nat) = (16777216 : Int) := rfl; omega, ?_⟩
        refine ⟨fun i acc => ∃ ys : List Str, acc = ys.map .str ∧ ys.length = i ∧ ∀ y ∈ ys, y ∈ ns, ⟨[], rfl, rfl, by simp⟩, ?_, ?_⟩
        · rintro i z acc hz ⟨ys, rfl, hl, hg⟩
          obtain ⟨hi, rfl⟩ := rangeD_at hz
          walk_at "rz"
          obtain ⟨v, e1, m1⟩ := atI_mem (xs := [y0, y1, y2, y3, y4, y5, y6, y7].map PyData.int) (i := 3 + (0 + (i : Int))) (by omega) (by simp; omega)
          obtain ⟨n, hn, rfl⟩ := List.mem_map.mp m1
          obtain ⟨u, e2, m2⟩ := atI_mem (xs := ps.map PyData.str) (i := n % ((ps.map PyData.str).length : Int)) (Int.emod_nonneg _ (by rw [List.length_map]; omega)) (Int.emod_lt_of_pos _ (by rw [List.length_map]; omega))
          obtain ⟨nm, hnm, rfl⟩ := List.mem_map.mp m2
          refine ⟨_, e1, _, rfl, by rw [List.length_map]; omega, _, e2, ys ++ [nm], by simp, by simp [hl], fun y hy => ?_⟩
          rcases List.mem_append.mp hy with h | h
          · exact hg y h
          · rw [List.mem_singleton] at h; rw [h]; exact h1 nm hnm
        · rintro acc ⟨ys, rfl, hl, hg⟩
          rw [rangeD_len] at hl
          exact q ys hg (by omega)
end
end K10

open PySem L2

namespace K10

section
variable {P : Program} {w : World} {K : PySem.W.Frag} {mg : Str → Option Value} {base : Heap} {t : Adr}
def F_drawn : List PyData → (PyData → Prop) → Prop := fun ds Q => ∃ ns : List Int, ds = [scrD (ns.map .int)] ∧ ∀ (pre : List Str) (nm : Str) (ps : List Pp), GoodP ps → ps.length ≤ 40 → nm ∉ ps.map (·.nm) → PyData.strOk nm = true → Q (.tuple [.list ((pre ++ [nm]).map .str), .tuple (ps.map Pp.enc)])
theorem cell_iff {ns : List Int} {k : Int} {Q : PyData → Prop} : F_cell [scrD (ns.map .int), .int k] Q ↔ (0 ≤ k ∧ k ≤ 1000 ∧ ∀ c : Int, Q (.int c)) := by
  constructor
  · rintro ⟨ns', k', e, a, b, q⟩
    simp only [List.cons.injEq, PyData.int.injEq, and_true] at e
    rw [e.2]; exact ⟨a, b, q⟩
  · rintro ⟨a, b, q⟩; exact ⟨ns, k, rfl, a, b, q⟩
theorem numbers_iff {c m : Int} {Q : PyData → Prop} : F_numbers [.int c, .int m] Q ↔ (0 ≤ m ∧ m ≤ 64 ∧ ∀ ns : List Int, (ns.length : Int) = m → (∀ z ∈ ns, 0 ≤ z ∧ z < 2000000000) → Q (.list (ns.map .int))) := by
  constructor
  · rintro ⟨c', m', e, a, b, q⟩
    simp only [List.cons.injEq, PyData.int.injEq, and_true] at e
    obtain ⟨rfl, rfl⟩ := e; exact ⟨a, b, q⟩
  · rintro ⟨a, b, q⟩; exact ⟨c, m, rfl, a, b, q⟩
theorem names_iff {a b c d e m : Int} {r : List PyData} {Q : PyData → Prop} : F_names [.list (.int a :: .int b :: .int c :: .int d :: .int e :: r), .int m] Q ↔ (0 ≤ m ∧ m ≤ 50 ∧ ∀ ss : List Str, (ss.length : Int) = m → (∀ z ∈ ss, GoodS 20 z) → ss.Nodup → Q (.list (ss.map .str))) := by
  constructor
  · rintro ⟨a', b', c', d', e', r', m', h, x, y, q⟩
    simp only [List.cons.injEq, PyData.int.injEq, PyData.list.injEq, and_true] at h
    rw [h.2]; exact ⟨x, y, q⟩
  · rintro ⟨x, y, q⟩; exact ⟨a, b, c, d, e, r, m, rfl, x, y, q⟩
theorem told_iff {y0 y1 y2 y3 y4 y5 y6 y7 : Int} {ns : List Str} {k web : Int} {Q : PyData → Prop} (h : 0 ≤ k ∧ k ≤ ns.length ∧ ns.length ≤ 50 ∧ (∀ z ∈ ns, PyData.strOk z = true) ∧ ∀ ss : List Str, (∀ z ∈ ss, z ∈ ns) → ss.length ≤ 50 → Q (.list (ss.map .str))) : F_told [.list [.int y0, .int y1, .int y2, .int y3, .int y4, .int y5, .int y6, .int y7], .list (ns.map .str), .int k, .int web] Q :=
  ⟨y0, y1, y2, y3, y4, y5, y6, y7, ns, k, web, rfl, h⟩
theorem cD_2r {a b : PyData} {r : List PyData} : cutD (a :: b :: r) (some 2) none = r := by rw [cutD_drop (by decide) (by simp; omega)]; rfl
theorem atI_c7 {α : Type} {a b c d e f g h : α} {l : List α} : atI (a :: b :: c :: d :: e :: f :: g :: h :: l) 7 = some h := atI_nat (j := 7) rfl
theorem list9 {ns : List Int} (h : (ns.length : Int) = 9) : ∃ a0 a1 a2 a3 a4 a5 a6 a7 a8, ns = [a0, a1, a2, a3, a4, a5, a6, a7, a8] := by
  match ns, (show ns.length = 9 by omega) with
  | [a0, a1, a2, a3, a4, a5, a6, a7, a8], _ => exact ⟨_, _, _, _, _, _, _, _, _, rfl⟩
theorem list8 {ns : List Int} (h : (ns.length : Int) = 8) : ∃ a0 a1 a2 a3 a4 a5 a6 a7, ns = [a0, a1, a2, a3, a4, a5, a6, a7] := by
  match ns, (show ns.length = 8 by omega) with
  | [a0, a1, a2, a3, a4, a5, a6, a7], _ => exact ⟨_, _, _, _, _, _, _, _, rfl⟩
theorem ok_drawn (T : Txt K mg t) : FnOk P w K mg base CX0 2 t.a__law_drawn t.d__law_drawn ["_law_script"] (spD K F_drawn) := by
  have G__law_cell := ok_cell (P := P) (w := w) (base := base) T
  have G__law_numbers := ok_numbers (P := P) (w := w) (base := base) T
  have G__law_names := ok_names (P := P) (w := w) (base := base) T
  have G__law_told := ok_told (P := P) (w := w) (base := base) T
  refine T.F__law_drawn.okD sc__law_drawn (fun ds Q h => ?_) (fun cdv A outer s H O ds Q E hr h => ?_)
  · obtain ⟨ns, rfl, _⟩ := h; rfl
  · obtain ⟨ns, rfl, q⟩ := h
    refine' ⟨_, ?body, ?read⟩
    case body =>
      refine' dss_cons ?s1 ?r1
      case s1 =>
        exact (ds_set (i := 1) sc__law_drawn.nd rfl (by first | exact Or.inl rfl | exact Or.inr rfl) (PE.imp (pe_call G__law_numbers (hr.mono (by decide)) rfl T.m__law_numbers T.F__law_numbers.kp T.b__law_numbers .nil pass0 (da_cons (PE.imp (pe_call G__law_cell (hr.mono (by decide)) rfl T.m__law_cell T.F__law_cell.kp T.b__law_cell .nil pass0 (da_cons (dv 0) (da_cons de_int da_nil))) dcall) (da_cons de_int da_nil))) dcall))
      case r1 =>
        refine' dss_cons ?s3 ?r3
        case s3 =>
          generalize hG4 : Expr.Subscript _ _ _ = eg4
          refine' ds_set (i := 2) sc__law_drawn.nd rfl (by first | exact Or.inl rfl | exact Or.inr rfl) ?e4 (hs := by subst hG4; exact swaps_Subscript)
          case e4 =>
            subst hG4
            refine' de_ix ix_list od_ixL (df ?a5) ?b5
            case a5 =>
              refine' fe ?f6
              case f6 =>
                refine' fe_lst ?g7
                case g7 =>
                  refine' da_cons ?u8 ?w8
                  case u8 =>
                    exact (de_op op_mod od_intC (df (de_ix ix_list od_ixL (df (dv 1)) (df de_int))) (df de_int))
                  case w8 =>
                    refine' da_cons ?u10 ?w10
                    case u10 =>
                      exact (de_op op_mod od_intC (df (de_op op_fdiv od_intC (df (de_ix ix_list od_ixL (df (dv 1)) (df de_int))) (df de_int))) (df de_int))
                    case w10 =>
                      exact da_nil
            case b5 => exact (df (PE.imp (pe_callTy call_int1 rfl T.n_int bt_int (db_cons (df (de_cmp (op_eqX hr.units) od_eq (df (de_op op_mod od_intC (df (de_ix ix_list od_ixL (df (dv 1)) (df de_int))) (df de_int))) (df de_int) (nomark _))) db_nil)) (dcb cd_int)))
        case r3 =>
          refine' dss_cons ?s13 ?r13
          case s13 =>
            refine' ds_set (i := 3) sc__law_drawn.nd rfl (by first | exact Or.inl rfl | exact Or.inr rfl) ?e14 (hs := swaps_Call)
            case e14 =>
              exact (PE.imp (pe_call G__law_names (hr.mono (by decide)) rfl T.m__law_names T.F__law_names.kp T.b__law_names .nil pass0 (da_cons (fe (fe_slice (df (dv 1)) (do_some de_int) do_none)) (da_cons (de_op op_add od_int (df (dv 2)) (df de_int)) da_nil))) dcall)
          case r13 =>
            refine' dss_cons ?s16 ?r16
            case s16 =>
              exact (ds_par (i := 4) (j := 5) rfl sc__law_drawn.nd rfl rfl (by decide) rfl rfl (da_cons (de_op op_mod od_intC (df (de_op op_fdiv od_intC (df (de_ix ix_list od_ixL (df (dv 1)) (df de_int))) (df de_int))) (df de_int)) (da_cons (de_op op_mod od_intC (df (de_op op_fdiv od_intC (df (de_ix ix_list od_ixL (df (dv 1)) (df de_int))) (df de_int))) (df de_int)) da_nil)) (by rfl))
            case r16 =>
              refine' dss_cons ?s18 ?r18
              case s18 =>
                exact (ds_new (i := 6) sc__law_drawn.nd rfl (by first | exact Or.inl rfl | exact Or.inr rfl) (fe_lst da_nil))
              case r18 =>
                refine' dss_cons ?s20 ?r20
                case s20 =>
                  refine' ds_forRI PassesOwn.never rfl rfl T.n_range (da_cons (dv 2) da_nil) ?a21 gd_name ?b21
                  case a21 => exact (pg_name (i := 7) sc__law_drawn.nd rfl (by first | exact Or.inl rfl | exact Or.inr rfl))
                  case b21 =>
                    refine' dss_cons ?s22 ?r22
                    case s22 =>
                      refine' ds_set (i := 8) sc__law_drawn.nd rfl (by first | exact Or.inl rfl | exact Or.inr rfl) ?e23 (hs := swaps_Call)
                      case e23 =>
                        exact (PE.imp (pe_call G__law_numbers (hr.mono (by decide)) rfl T.m__law_numbers T.F__law_numbers.kp T.b__law_numbers .nil pass0 (da_cons (PE.imp (pe_call G__law_cell (hr.mono (by decide)) rfl T.m__law_cell T.F__law_cell.kp T.b__law_cell .nil pass0 (da_cons (dv 0) (da_cons (de_op op_add od_int (df de_int) (df (dv 7))) da_nil))) dcall) (da_cons de_int da_nil))) dcall)
                    case r22 =>
                      refine' dss_cons ?s25 ?r25
                      case s25 =>
                        generalize hG26 : Expr.Subscript _ _ _ = eg26
                        refine' ds_set (i := 9) sc__law_drawn.nd rfl (by first | exact Or.inl rfl | exact Or.inr rfl) ?e26 (hs := by subst hG26; exact swaps_Subscript)
                        case e26 =>
                          subst hG26
                          refine' de_ix ix_list od_ixL (df ?a27) ?b27
                          case a27 =>
                            refine' fe ?f28
                            case f28 =>
                              refine' fe_lst ?g29
                              case g29 =>
                                refine' da_cons ?u30 ?w30
                                case u30 =>
                                  exact (dv 7)
                                case w30 =>
                                  refine' da_cons ?u32 ?w32
                                  case u32 =>
                                    exact (de_op op_mod od_intC (df (de_ix ix_list od_ixL (df (dv 8)) (df de_int))) (df de_int))
                                  case w32 =>
                                    refine' da_cons ?u34 ?w34
                                    case u34 =>
                                      exact (de_op op_mod od_intC (df (de_ix ix_list od_ixL (df (fe (fe_lst (da_cons (de_ix ix_list od_ixL (df (dv 8)) (df de_int)) (da_cons (de_op op_add od_int (df (de_op op_mul od_intC (df de_int) (df (dv 7)))) (df (de_op op_mod od_intC (df (de_ix ix_list od_ixL (df (dv 8)) (df de_int))) (df de_int)))) da_nil))))) (df (de_op op_mod od_intC (df (de_ix ix_list od_ixL (df (dv 1)) (df de_int))) (df de_int))))) (df de_int))
                                    case w34 =>
                                      exact da_nil
                          case b27 => exact (df (dv 5))
                      case r25 =>
                        refine' dss_cons ?s37 ?r37
                        case s37 =>
                          refine' ds_set (i := 10) sc__law_drawn.nd rfl (by first | exact Or.inl rfl | exact Or.inr rfl) ?e38 (hs := swaps_Subscript)
                          case e38 =>
                            refine' fe ?f39
                            case f39 =>
                              exact (fe_slice (df (fe (fe_sortSet rfl rfl T.n_sorted PyProof.Rows.boot_sorted rfl T.n_set (db_cons (df (PE.imp (pe_call G__law_told (hr.mono (by decide)) rfl T.m__law_told T.F__law_told.kp T.b__law_told .nil pass0 (da_cons (dv 8) (da_cons (dv 3) (da_cons (dv 7) (da_cons (dv 4) da_nil))))) dcall)) db_nil)))) do_none (do_some de_int))
                        case r37 =>
                          refine' dss_one ?s41
                          case s41 =>
                            refine' ds_app (i := 6) (pv 6) ?e42
                            case e42 =>
                              refine' de_tup ?t43
                              case t43 =>
                                refine' da_cons ?u44 ?w44
                                case u44 =>
                                  exact de_str
                                case w44 =>
                                  refine' da_cons ?u46 ?w46
                                  case u46 =>
                                    exact (dv 9)
                                  case w46 =>
                                    refine' da_cons ?u48 ?w48
                                    case u48 =>
                                      exact (de_ix ix_list od_ixL (df (dv 3)) (df (dv 7)))
                                    case w48 =>
                                      refine' da_cons ?u50 ?w50
                                      case u50 =>
                                        exact (de_op op_mulS od_mulS (df de_str) (df (de_op op_add od_int (df de_int) (df (de_op op_mod od_intC (df (de_ix ix_list od_ixL (df (dv 8)) (df de_int))) (df de_int))))))
                                      case w50 =>
                                        refine' da_cons ?u52 ?w52
                                        case u52 =>
                                          exact (PE.imp (pe_callTy call_tuple_of rfl T.n_tuple bt_tuple (db_cons (df (dv 10)) db_nil)) (dcb cd_tupOf))
                                        case w52 =>
                                          exact da_nil
                case r20 =>
                  refine' dss_cons ?s55 ?r55
                  case s55 =>
                    refine' ds_set (i := 11) sc__law_drawn.nd rfl (by first | exact Or.inl rfl | exact Or.inr rfl) ?e56 (hs := swaps_BinOp)
                    case e56 =>
                      exact (de_op op_mod od_intC (df (de_op op_fdiv od_intC (df (de_ix ix_list od_ixL (df (dv 1)) (df de_int))) (df de_int))) (df (de_op op_add od_int (df (dv 2)) (df de_int))))
                  case r55 =>
                    refine' dss_one ?s58
                    case s58 =>
                      refine' ds_ret ?e59
                      case e59 =>
                        refine' de_tup ?t60
                        case t60 =>
                          refine' da_cons ?u61 ?w61
                          case u61 =>
                            exact (dv 3)
                          case w61 =>
                            refine' da_cons ?u63 ?w63
                            case u63 =>
                              exact (PE.imp (pe_callTy call_tuple_of rfl T.n_tuple bt_tuple (db_cons (df (fe (fe_cat (df (fe (fe_slice (dw 6) (do_some (dv 11)) do_none))) (df (fe (fe_slice (dw 6) do_none (do_some (dv 11)))))))) db_nil)) (dcb cd_tupOf))
                            case w63 =>
                              exact da_nil
    case read =>
    clear hr T G__law_cell G__law_numbers G__law_names G__law_told
    simp only [cell_iff, numbers_iff, ↓lz_w, ↓lz_k0, ↓lz_kS, ↓lz_kE, ↓lz_kN, ↓lz_ks, ↓lz_ki, ↓lz_wN, ↓lz_v0, ↓lz_vS, ↓lz_vE, ↓lz_vN, ↓lz_o0, ↓lz_oS, ↓lz_oE, ↓lz_oN, ↓lz_b, ↓lz_i, ↓lz_s, ↓lz_t, ↓lz_l, ↓lz_ii, ↓lz_ss, ↓lz_tt, ↓lz_ll, ↓lz_cons, ↓lz_two, ↓lz_tt0, ↓lz_tt1, ↓lz_tt2, ↓lz_tt3, ↓lz_ll0, ↓lz_ll1, ↓lz_ll2, ↓lz_tix, ↓lz_lix, dSeq, dNext, dIfS, dRet, dRetO, dDrop, dSet, dNew, dApp, dAsg, dPar, dFrz, dVar, dOwn, dC, dOp, dI, dIC, dEq, dNe, dIn, dIxL, dIxT, dIxS, dAddS, dCatT, dCat, dL, dFin, dTup, dLst, dNil, dCons, dTest, dAnd, dOr, dNot, dAndV, dOrV, dNotV, dIf, dChain, dCall, dCallS, dCallN, wq_paper_happens, wq_paper_rule, wq_paper_end, wq_paper_hold, wq_paper_lift, wq_paper_leave, wq_happens_paper, wq_happens_rule, wq_happens_end, wq_happens_hold, wq_happens_lift, wq_happens_leave, wq_rule_paper, wq_rule_happens, wq_rule_end, wq_rule_hold, wq_rule_lift, wq_rule_leave, wq_end_paper, wq_end_happens, wq_end_rule, wq_end_hold, wq_end_lift, wq_end_leave, wq_hold_paper, wq_hold_happens, wq_hold_rule, wq_hold_end, wq_hold_lift, wq_hold_leave, wq_lift_paper, wq_lift_happens, wq_lift_rule, wq_lift_end, wq_lift_hold, wq_lift_leave, wq_leave_paper, wq_leave_happens, wq_leave_rule, wq_leave_end, wq_leave_hold, wq_leave_lift, dRep2, dSlL, dSlT, dSlS, dLits, dSel, dRev, dNoPart, dPart, dLen, dLenS, dTupOf, dAny, dTwo, dIsin, dJoin, dInt, dListOf, dYes, dComp, dCompT, dCompR, dFor, dForT, dForR, dForR2, dForI, dForTI, dForRI, dForR2I, dSlX, dDct0, dNeg, dUpper, dRevT, dRepT, cD_nm1, dInX, dLenT, dLtS, dInS, dEqZ, dInZ, dSortS, dCompSI, dCompR2I, dStrI, dIntT, dZfill, dSplit, dJs, dNever, dLtU, dNewK, dEmp, dPutK, dGetK, dGet1K, dInK, dSortK, dIsN, dNotN, dMulS, dIxSc, dSlSc, dAbs, dPar3, dExt, dMaxL, dForDK, dDisp, dPairs, dSortSet, dFrzK, dGetD, dSortPr, dSortKey, dLtP, dIndex, dListRg, dCompV, dCatX, take_iff, cD_1n, cD_2n, cD_3n, cD_4n, cD_n1, cD_n2, cD_n3, cD_n4, cD_13, ne_eq, thing_str, thing_int, thing_bool, thing_tup, thing_list, strsE1, strsE2, strsE3, dCompI, dCompTI, dCompRI, dgName, dgTup, dgCons, dgNil, forW, startD, dst0, CDiv, CPow, CMul, List.map_cons, List.map_nil, List.length_cons, List.length_nil, List.replicate, List.cons_append, List.nil_append, List.append_nil, Nat.reduceAdd, Nat.reduceSub, Nat.add_zero, Nat.zero_add, Nat.sub_self, List.getElem?_cons_zero, List.getElem?_cons_succ, List.getElem?_nil, List.set_cons_zero, List.set_cons_succ, Option.some.injEq, exists_eq_left', exists_eq_left, exists_and_left, exists_and_right, Option.join_some, Option.join_none, Sl.v.injEq, Sl.o.injEq, Sl.k.injEq, PyData.int.injEq, PyData.bool.injEq, PyData.str.injEq, PyData.tuple.injEq, PyData.list.injEq, List.cons.injEq, and_true, true_and, Nat.reduceLT, Nat.reduceLeDiff, exists_const, decide_eq_true_eq, Int.reduceLT, Int.reduceLE, Int.reduceNeg, Int.reducePow, Bool.not_eq_true', decide_eq_false_iff_not, and_assoc, or_true, true_or, ↓reduceIte, if_true, if_false, Bool.false_eq_true, Bool.true_eq_false, not_true_eq_false, not_false_eq_true, Bool.not_true, Bool.not_false, ite_true, ite_false, eq_self, exists_eq, reduceCtorEq, false_and, and_false, or_false, false_or, exists_false, Option.map_some, Option.map_none, scalD, List.all_cons, List.all_nil, List.any_cons, List.any_nil, Bool.and_true, Bool.or_false, Bool.true_and, Bool.false_or, atI_c0, atI_c1, atI_c2, atI_c3, atI_c4, eqv_str, eqv_int, eqv_bool, beq_self_eq_true, shp_int, shp_bl, shp_non, Shp, sizeLine_eq]
    intro c0 ms ml mn
    obtain ⟨a0, a1, a2, a3, a4, a5, a6, a7, a8, rfl⟩ := list9 ml
    clear mn ml
    simp only [names_iff, cD_2r, atI_c7, ↓lz_w, ↓lz_k0, ↓lz_kS, ↓lz_kE, ↓lz_kN, ↓lz_ks, ↓lz_ki, ↓lz_wN, ↓lz_v0, ↓lz_vS, ↓lz_vE, ↓lz_vN, ↓lz_o0, ↓lz_oS, ↓lz_oE, ↓lz_oN, ↓lz_b, ↓lz_i, ↓lz_s, ↓lz_t, ↓lz_l, ↓lz_ii, ↓lz_ss, ↓lz_tt, ↓lz_ll, ↓lz_cons, ↓lz_two, ↓lz_tt0, ↓lz_tt1, ↓lz_tt2, ↓lz_tt3, ↓lz_ll0, ↓lz_ll1, ↓lz_ll2, ↓lz_tix, ↓lz_lix, dSeq, dNext, dIfS, dRet, dRetO, dDrop, dSet, dNew, dApp, dAsg, dPar, dFrz, dVar, dOwn, dC, dOp, dI, dIC, dEq, dNe, dIn, dIxL, dIxT, dIxS, dAddS, dCatT, dCat, dL, dFin, dTup, dLst, dNil, dCons, dTest, dAnd, dOr, dNot, dAndV, dOrV, dNotV, dIf, dChain, dCall, dCallS, dCallN, wq_paper_happens, wq_paper_rule, wq_paper_end, wq_paper_hold, wq_paper_lift, wq_paper_leave, wq_happens_paper, wq_happens_rule, wq_happens_end, wq_happens_hold, wq_happens_lift, wq_happens_leave, wq_rule_paper, wq_rule_happens, wq_rule_end, wq_rule_hold, wq_rule_lift, wq_rule_leave, wq_end_paper, wq_end_happens, wq_end_rule, wq_end_hold, wq_end_lift, wq_end_leave, wq_hold_paper, wq_hold_happens, wq_hold_rule, wq_hold_end, wq_hold_lift, wq_hold_leave, wq_lift_paper, wq_lift_happens, wq_lift_rule, wq_lift_end, wq_lift_hold, wq_lift_leave, wq_leave_paper, wq_leave_happens, wq_leave_rule, wq_leave_end, wq_leave_hold, wq_leave_lift, dRep2, dSlL, dSlT, dSlS, dLits, dSel, dRev, dNoPart, dPart, dLen, dLenS, dTupOf, dAny, dTwo, dIsin, dJoin, dInt, dListOf, dYes, dComp, dCompT, dCompR, dFor, dForT, dForR, dForR2, dForI, dForTI, dForRI, dForR2I, dSlX, dDct0, dNeg, dUpper, dRevT, dRepT, cD_nm1, dInX, dLenT, dLtS, dInS, dEqZ, dInZ, dSortS, dCompSI, dCompR2I, dStrI, dIntT, dZfill, dSplit, dJs, dNever, dLtU, dNewK, dEmp, dPutK, dGetK, dGet1K, dInK, dSortK, dIsN, dNotN, dMulS, dIxSc, dSlSc, dAbs, dPar3, dExt, dMaxL, dForDK, dDisp, dPairs, dSortSet, dFrzK, dGetD, dSortPr, dSortKey, dLtP, dIndex, dListRg, dCompV, dCatX, take_iff, cD_1n, cD_2n, cD_3n, cD_4n, cD_n1, cD_n2, cD_n3, cD_n4, cD_13, ne_eq, thing_str, thing_int, thing_bool, thing_tup, thing_list, strsE1, strsE2, strsE3, dCompI, dCompTI, dCompRI, dgName, dgTup, dgCons, dgNil, forW, startD, dst0, CDiv, CPow, CMul, List.map_cons, List.map_nil, List.length_cons, List.length_nil, List.replicate, List.cons_append, List.nil_append, List.append_nil, Nat.reduceAdd, Nat.reduceSub, Nat.add_zero, Nat.zero_add, Nat.sub_self, List.getElem?_cons_zero, List.getElem?_cons_succ, List.getElem?_nil, List.set_cons_zero, List.set_cons_succ, Option.some.injEq, exists_eq_left', exists_eq_left, exists_and_left, exists_and_right, Option.join_some, Option.join_none, Sl.v.injEq, Sl.o.injEq, Sl.k.injEq, PyData.int.injEq, PyData.bool.injEq, PyData.str.injEq, PyData.tuple.injEq, PyData.list.injEq, List.cons.injEq, and_true, true_and, Nat.reduceLT, Nat.reduceLeDiff, exists_const, decide_eq_true_eq, Int.reduceLT, Int.reduceLE, Int.reduceNeg, Int.reducePow, Bool.not_eq_true', decide_eq_false_iff_not, and_assoc, or_true, true_or, ↓reduceIte, if_true, if_false, Bool.false_eq_true, Bool.true_eq_false, not_true_eq_false, not_false_eq_true, Bool.not_true, Bool.not_false, ite_true, ite_false, eq_self, exists_eq, reduceCtorEq, false_and, and_false, or_false, false_or, exists_false, Option.map_some, Option.map_none, scalD, List.all_cons, List.all_nil, List.any_cons, List.any_nil, Bool.and_true, Bool.or_false, Bool.true_and, Bool.false_or, atI_c0, atI_c1, atI_c2, atI_c3, atI_c4, eqv_str, eqv_int, eqv_bool, beq_self_eq_true, shp_int, shp_bl, shp_non, Shp, sizeLine_eq]
    have hm : ∃ m : Int, atI [PyData.int (a0 % 11), PyData.int (a0 / 4 % 41)] (if (a1 % 4 == 1) = true then 1 else 0) = some (.int m) ∧ 0 ≤ m ∧ m ≤ 40 := by
      split
      · exact ⟨_, atI_c1, by omega, by omega⟩
      · exact ⟨_, atI_c0, by omega, by omega⟩
    obtain ⟨m, em, m0, m1⟩ := hm
    refine ⟨_, em, m, rfl, by omega, by omega, fun ss sl sg snd => ⟨m, rfl, by omega, by omega, ?_⟩⟩
    clear em
    generalize hweb : a1 / 4 % 5 = web
    generalize hfar : a1 / 20 % 3 = far
    have far0 : 0 ≤ far := by omega
    have far1 : far < 3 := by omega
    clear hfar hweb
    have sok : ∀ z ∈ ss, PyData.strOk z = true := fun z hz => (sg z hz).ok
    refine ⟨fun i δ => ∃ (ps : List Pp) (o7 o8 o9 o10 o11 : Option Sl), ps.map (·.nm) = ss.take i ∧ (∀ p ∈ ps, PyData.strOk p.kd = true ∧ (∀ z ∈ p.ms, PyData.strOk z = true) ∧ p.ms.length ≤ 50) ∧ δ = [some (Sl.v (scrD (List.map PyData.int ns))), some (Sl.v (PyData.list [PyData.int a0, PyData.int a1, PyData.int a2, PyData.int a3, PyData.int a4, PyData.int a5, PyData.int a6, PyData.int a7, PyData.int a8])), some (Sl.v (.int m)), some (Sl.v (PyData.list (List.map PyData.str ss))), some (Sl.v (PyData.int web)), some (Sl.v (PyData.int far)), some (Sl.o (ps.map Pp.enc)), o7, o8, o9, o10, o11], ⟨[], _, _, _, _, _, rfl, by simp, rfl⟩, ?_, ?_⟩
    · rintro i z δ hz ⟨ps, o7, o8, o9, o10, o11, hn, hg, rfl⟩
      obtain ⟨hi, rfl⟩ := rangeD_at hz
      have hpl : ps.length = i := by
        have := congrArg List.length hn
        rw [List.length_map, List.length_take] at this; omega
      simp only [cell_iff, numbers_iff, ↓lz_w, ↓lz_k0, ↓lz_kS, ↓lz_kE, ↓lz_kN, ↓lz_ks, ↓lz_ki, ↓lz_wN, ↓lz_v0, ↓lz_vS, ↓lz_vE, ↓lz_vN, ↓lz_o0, ↓lz_oS, ↓lz_oE, ↓lz_oN, ↓lz_b, ↓lz_i, ↓lz_s, ↓lz_t, ↓lz_l, ↓lz_ii, ↓lz_ss, ↓lz_tt, ↓lz_ll, ↓lz_cons, ↓lz_two, ↓lz_tt0, ↓lz_tt1, ↓lz_tt2, ↓lz_tt3, ↓lz_ll0, ↓lz_ll1, ↓lz_ll2, ↓lz_tix, ↓lz_lix, dSeq, dNext, dIfS, dRet, dRetO, dDrop, dSet, dNew, dApp, dAsg, dPar, dFrz, dVar, dOwn, dC, dOp, dI, dIC, dEq, dNe, dIn, dIxL, dIxT, dIxS, dAddS, dCatT, dCat, dL, dFin, dTup, dLst, dNil, dCons, dTest, dAnd, dOr, dNot, dAndV, dOrV, dNotV, dIf, dChain, dCall, dCallS, dCallN, wq_paper_happens, wq_paper_rule, wq_paper_end, wq_paper_hold, wq_paper_lift, wq_paper_leave, wq_happens_paper, wq_happens_rule, wq_happens_end, wq_happens_hold, wq_happens_lift, wq_happens_leave, wq_rule_paper, wq_rule_happens, wq_rule_end, wq_rule_hold, wq_rule_lift, wq_rule_leave, wq_end_paper, wq_end_happens, wq_end_rule, wq_end_hold, wq_end_lift, wq_end_leave, wq_hold_paper, wq_hold_happens, wq_hold_rule, wq_hold_end, wq_hold_lift, wq_hold_leave, wq_lift_paper, wq_lift_happens, wq_lift_rule, wq_lift_end, wq_lift_hold, wq_lift_leave, wq_leave_paper, wq_leave_happens, wq_leave_rule, wq_leave_end, wq_leave_hold, wq_leave_lift, dRep2, dSlL, dSlT, dSlS, dLits, dSel, dRev, dNoPart, dPart, dLen, dLenS, dTupOf, dAny, dTwo, dIsin, dJoin, dInt, dListOf, dYes, dComp, dCompT, dCompR, dFor, dForT, dForR, dForR2, dForI, dForTI, dForRI, dForR2I, dSlX, dDct0, dNeg, dUpper, dRevT, dRepT, cD_nm1, dInX, dLenT, dLtS, dInS, dEqZ, dInZ, dSortS, dCompSI, dCompR2I, dStrI, dIntT, dZfill, dSplit, dJs, dNever, dLtU, dNewK, dEmp, dPutK, dGetK, dGet1K, dInK, dSortK, dIsN, dNotN, dMulS, dIxSc, dSlSc, dAbs, dPar3, dExt, dMaxL, dForDK, dDisp, dPairs, dSortSet, dFrzK, dGetD, dSortPr, dSortKey, dLtP, dIndex, dListRg, dCompV, dCatX, take_iff, cD_1n, cD_2n, cD_3n, cD_4n, cD_n1, cD_n2, cD_n3, cD_n4, cD_13, ne_eq, thing_str, thing_int, thing_bool, thing_tup, thing_list, strsE1, strsE2, strsE3, dCompI, dCompTI, dCompRI, dgName, dgTup, dgCons, dgNil, forW, startD, dst0, CDiv, CPow, CMul, List.map_cons, List.map_nil, List.length_cons, List.length_nil, List.replicate, List.cons_append, List.nil_append, List.append_nil, Nat.reduceAdd, Nat.reduceSub, Nat.add_zero, Nat.zero_add, Nat.sub_self, List.getElem?_cons_zero, List.getElem?_cons_succ, List.getElem?_nil, List.set_cons_zero, List.set_cons_succ, Option.some.injEq, exists_eq_left', exists_eq_left, exists_and_left, exists_and_right, Option.join_some, Option.join_none, Sl.v.injEq, Sl.o.injEq, Sl.k.injEq, PyData.int.injEq, PyData.bool.injEq, PyData.str.injEq, PyData.tuple.injEq, PyData.list.injEq, List.cons.injEq, and_true, true_and, Nat.reduceLT, Nat.reduceLeDiff, exists_const, decide_eq_true_eq, Int.reduceLT, Int.reduceLE, Int.reduceNeg, Int.reducePow, Bool.not_eq_true', decide_eq_false_iff_not, and_assoc, or_true, true_or, ↓reduceIte, if_true, if_false, Bool.false_eq_true, Bool.true_eq_false, not_true_eq_false, not_false_eq_true, Bool.not_true, Bool.not_false, ite_true, ite_false, eq_self, exists_eq, reduceCtorEq, false_and, and_false, or_false, false_or, exists_false, Option.map_some, Option.map_none, scalD, List.all_cons, List.all_nil, List.any_cons, List.any_nil, Bool.and_true, Bool.or_false, Bool.true_and, Bool.false_or, atI_c0, atI_c1, atI_c2, atI_c3, atI_c4, eqv_str, eqv_int, eqv_bool, beq_self_eq_true, shp_int, shp_bl, shp_non, Shp, sizeLine_eq]
      refine ⟨by omega, by omega, fun c1 ys yl yn => ?_⟩
      obtain ⟨y0, y1, y2, y3, y4, y5, y6, y7, rfl⟩ := list8 yl
      clear yl yn hz
      simp only [atI_c7, true_and, ↓lz_w, ↓lz_k0, ↓lz_kS, ↓lz_kE, ↓lz_kN, ↓lz_ks, ↓lz_ki, ↓lz_wN, ↓lz_v0, ↓lz_vS, ↓lz_vE, ↓lz_vN, ↓lz_o0, ↓lz_oS, ↓lz_oE, ↓lz_oN, ↓lz_b, ↓lz_i, ↓lz_s, ↓lz_t, ↓lz_l, ↓lz_ii, ↓lz_ss, ↓lz_tt, ↓lz_ll, ↓lz_cons, ↓lz_two, ↓lz_tt0, ↓lz_tt1, ↓lz_tt2, ↓lz_tt3, ↓lz_ll0, ↓lz_ll1, ↓lz_ll2, ↓lz_tix, ↓lz_lix, dSeq, dNext, dIfS, dRet, dRetO, dDrop, dSet, dNew, dApp, dAsg, dPar, dFrz, dVar, dOwn, dC, dOp, dI, dIC, dEq, dNe, dIn, dIxL, dIxT, dIxS, dAddS, dCatT, dCat, dL, dFin, dTup, dLst, dNil, dCons, dTest, dAnd, dOr, dNot, dAndV, dOrV, dNotV, dIf, dChain, dCall, dCallS, dCallN, wq_paper_happens, wq_paper_rule, wq_paper_end, wq_paper_hold, wq_paper_lift, wq_paper_leave, wq_happens_paper, wq_happens_rule, wq_happens_end, wq_happens_hold, wq_happens_lift, wq_happens_leave, wq_rule_paper, wq_rule_happens, wq_rule_end, wq_rule_hold, wq_rule_lift, wq_rule_leave, wq_end_paper, wq_end_happens, wq_end_rule, wq_end_hold, wq_end_lift, wq_end_leave, wq_hold_paper, wq_hold_happens, wq_hold_rule, wq_hold_end, wq_hold_lift, wq_hold_leave, wq_lift_paper, wq_lift_happens, wq_lift_rule, wq_lift_end, wq_lift_hold, wq_lift_leave, wq_leave_paper, wq_leave_happens, wq_leave_rule, wq_leave_end, wq_leave_hold, wq_leave_lift, dRep2, dSlL, dSlT, dSlS, dLits, dSel, dRev, dNoPart, dPart, dLen, dLenS, dTupOf, dAny, dTwo, dIsin, dJoin, dInt, dListOf, dYes, dComp, dCompT, dCompR, dFor, dForT, dForR, dForR2, dForI, dForTI, dForRI, dForR2I, dSlX, dDct0, dNeg, dUpper, dRevT, dRepT, cD_nm1, dInX, dLenT, dLtS, dInS, dEqZ, dInZ, dSortS, dCompSI, dCompR2I, dStrI, dIntT, dZfill, dSplit, dJs, dNever, dLtU, dNewK, dEmp, dPutK, dGetK, dGet1K, dInK, dSortK, dIsN, dNotN, dMulS, dIxSc, dSlSc, dAbs, dPar3, dExt, dMaxL, dForDK, dDisp, dPairs, dSortSet, dFrzK, dGetD, dSortPr, dSortKey, dLtP, dIndex, dListRg, dCompV, dCatX, take_iff, cD_1n, cD_2n, cD_3n, cD_4n, cD_n1, cD_n2, cD_n3, cD_n4, cD_13, ne_eq, thing_str, thing_int, thing_bool, thing_tup, thing_list, strsE1, strsE2, strsE3, dCompI, dCompTI, dCompRI, dgName, dgTup, dgCons, dgNil, forW, startD, dst0, CDiv, CPow, CMul, List.map_cons, List.map_nil, List.length_cons, List.length_nil, List.replicate, List.cons_append, List.nil_append, List.append_nil, Nat.reduceAdd, Nat.reduceSub, Nat.add_zero, Nat.zero_add, Nat.sub_self, List.getElem?_cons_zero, List.getElem?_cons_succ, List.getElem?_nil, List.set_cons_zero, List.set_cons_succ, Option.some.injEq, exists_eq_left', exists_eq_left, exists_and_left, exists_and_right, Option.join_some, Option.join_none, Sl.v.injEq, Sl.o.injEq, Sl.k.injEq, PyData.int.injEq, PyData.bool.injEq, PyData.str.injEq, PyData.tuple.injEq, PyData.list.injEq, List.cons.injEq, and_true, true_and, Nat.reduceLT, Nat.reduceLeDiff, exists_const, decide_eq_true_eq, Int.reduceLT, Int.reduceLE, Int.reduceNeg, Int.reducePow, Bool.not_eq_true', decide_eq_false_iff_not, and_assoc, or_true, true_or, ↓reduceIte, if_true, if_false, Bool.false_eq_true, Bool.true_eq_false, not_true_eq_false, not_false_eq_true, Bool.not_true, Bool.not_false, ite_true, ite_false, eq_self, exists_eq, reduceCtorEq, false_and, and_false, or_false, false_or, exists_false, Option.map_some, Option.map_none, scalD, List.all_cons, List.all_nil, List.any_cons, List.any_nil, Bool.and_true, Bool.or_false, Bool.true_and, Bool.false_or, atI_c0, atI_c1, atI_c2, atI_c3, atI_c4, eqv_str, eqv_int, eqv_bool, beq_self_eq_true, shp_int, shp_bl, shp_non, Shp, sizeLine_eq]
      obtain ⟨v, e1, mv⟩ := atI_mem (xs := [PyData.int y0, PyData.int (2400 * (0 + (i : Int)) + y0 % 2400)]) (i := a7 % 2) (by omega) (by simp; omega)
      have hv : ∃ v1 : Int, v = .int v1 := by
        simp only [List.mem_cons, List.not_mem_nil, or_false] at mv
        rcases mv with rfl | rfl <;> exact ⟨_, rfl⟩
      obtain ⟨v1, rfl⟩ := hv
      obtain ⟨x, e2, mx⟩ := atI_mem (xs := [PyData.int (0 + (i : Int)), PyData.int (y0 % 6), PyData.int (v1 % 100000)]) (i := far) far0 (by simp; omega)
      have hx : ∃ d : Int, x = .int d := by
        simp only [List.mem_cons, List.not_mem_nil, or_false] at mx
        rcases mx with rfl | rfl | rfl <;> exact ⟨_, rfl⟩
      obtain ⟨d, rfl⟩ := hx
      have his : i < ss.length := by omega
      have e3 : atI (ss.map PyData.str) (0 + (i : Int)) = some (.str ss[i]) := by
        rw [Int.zero_add]
        exact atI_nat (by rw [List.getElem?_map, List.getElem?_eq_getElem his]; rfl)
      refine ⟨_, e1, v1, rfl, _, e2, told_iff ⟨by omega, by omega, by omega, sok, fun ss1 h1 h2 => ⟨ss1, rfl, by omega, _, e3, ?_⟩⟩⟩
      obtain ⟨ms, em, hms, lms⟩ := cutD_strs (ns := sortS (ss1.foldl addS [])) (lo := none) (hi := some 4)
      obtain ⟨mo, gk⟩ := mul_one (c := 107) (by decide) (n := 1 + y1 % 3) (by omega) (by omega)
      have l1 := foldS_len ss1 []
      rw [(sortS_perm _).length_eq] at lms
      refine ⟨mo, by rw [List.length_map]; omega, ps ++ [⟨d, ss[i], PySem.Txt.mul (Str.ofString "k") (1 + y1 % 3), ms⟩], ?_, fun p hp => ?_, ?_, _, rfl⟩
      · rw [List.map_append, hn, List.take_succ, List.getElem?_eq_getElem his]; rfl
      · rcases List.mem_append.mp hp with h | h
        · exact hg p h
        · rw [List.mem_singleton] at h
          rw [h]
          refine ⟨gk.ok, fun z hz => ?_, ?_⟩
          · have := (sortS_perm _).mem_iff.mp (hms z hz)
            rw [foldS_mem] at this
            rcases this with h | h
            · cases h
            · exact sok z (h1 z h)
          · simp only [List.length_nil] at l1; show ms.length ≤ 50; omega
      · rw [em, List.map_append]; rfl
    · rintro δ ⟨ps, o7, o8, o9, o10, o11, hn, hg, rfl⟩
      simp only [atI_c7, true_and, ↓lz_w, ↓lz_k0, ↓lz_kS, ↓lz_kE, ↓lz_kN, ↓lz_ks, ↓lz_ki, ↓lz_wN, ↓lz_v0, ↓lz_vS, ↓lz_vE, ↓lz_vN, ↓lz_o0, ↓lz_oS, ↓lz_oE, ↓lz_oN, ↓lz_b, ↓lz_i, ↓lz_s, ↓lz_t, ↓lz_l, ↓lz_ii, ↓lz_ss, ↓lz_tt, ↓lz_ll, ↓lz_cons, ↓lz_two, ↓lz_tt0, ↓lz_tt1, ↓lz_tt2, ↓lz_tt3, ↓lz_ll0, ↓lz_ll1, ↓lz_ll2, ↓lz_tix, ↓lz_lix, dSeq, dNext, dIfS, dRet, dRetO, dDrop, dSet, dNew, dApp, dAsg, dPar, dFrz, dVar, dOwn, dC, dOp, dI, dIC, dEq, dNe, dIn, dIxL, dIxT, dIxS, dAddS, dCatT, dCat, dL, dFin, dTup, dLst, dNil, dCons, dTest, dAnd, dOr, dNot, dAndV, dOrV, dNotV, dIf, dChain, dCall, dCallS, dCallN, wq_paper_happens, wq_paper_rule, wq_paper_end, wq_paper_hold, wq_paper_lift, wq_paper_leave, wq_happens_paper, wq_happens_rule, wq_happens_end, wq_happens_hold, wq_happens_lift, wq_happens_leave, wq_rule_paper, wq_rule_happens, wq_rule_end, wq_rule_hold, wq_rule_lift, wq_rule_leave, wq_end_paper, wq_end_happens, wq_end_rule, wq_end_hold, wq_end_lift, wq_end_leave, wq_hold_paper, wq_hold_happens, wq_hold_rule, wq_hold_end, wq_hold_lift, wq_hold_leave, wq_lift_paper, wq_lift_happens, wq_lift_rule, wq_lift_end, wq_lift_hold, wq_lift_leave, wq_leave_paper, wq_leave_happens, wq_leave_rule, wq_leave_end, wq_leave_hold, wq_leave_lift, dRep2, dSlL, dSlT, dSlS, dLits, dSel, dRev, dNoPart, dPart, dLen, dLenS, dTupOf, dAny, dTwo, dIsin, dJoin, dInt, dListOf, dYes, dComp, dCompT, dCompR, dFor, dForT, dForR, dForR2, dForI, dForTI, dForRI, dForR2I, dSlX, dDct0, dNeg, dUpper, dRevT, dRepT, cD_nm1, dInX, dLenT, dLtS, dInS, dEqZ, dInZ, dSortS, dCompSI, dCompR2I, dStrI, dIntT, dZfill, dSplit, dJs, dNever, dLtU, dNewK, dEmp, dPutK, dGetK, dGet1K, dInK, dSortK, dIsN, dNotN, dMulS, dIxSc, dSlSc, dAbs, dPar3, dExt, dMaxL, dForDK, dDisp, dPairs, dSortSet, dFrzK, dGetD, dSortPr, dSortKey, dLtP, dIndex, dListRg, dCompV, dCatX, take_iff, cD_1n, cD_2n, cD_3n, cD_4n, cD_n1, cD_n2, cD_n3, cD_n4, cD_13, ne_eq, thing_str, thing_int, thing_bool, thing_tup, thing_list, strsE1, strsE2, strsE3, dCompI, dCompTI, dCompRI, dgName, dgTup, dgCons, dgNil, forW, startD, dst0, CDiv, CPow, CMul, List.map_cons, List.map_nil, List.length_cons, List.length_nil, List.replicate, List.cons_append, List.nil_append, List.append_nil, Nat.reduceAdd, Nat.reduceSub, Nat.add_zero, Nat.zero_add, Nat.sub_self, List.getElem?_cons_zero, List.getElem?_cons_succ, List.getElem?_nil, List.set_cons_zero, List.set_cons_succ, Option.some.injEq, exists_eq_left', exists_eq_left, exists_and_left, exists_and_right, Option.join_some, Option.join_none, Sl.v.injEq, Sl.o.injEq, Sl.k.injEq, PyData.int.injEq, PyData.bool.injEq, PyData.str.injEq, PyData.tuple.injEq, PyData.list.injEq, List.cons.injEq, and_true, true_and, Nat.reduceLT, Nat.reduceLeDiff, exists_const, decide_eq_true_eq, Int.reduceLT, Int.reduceLE, Int.reduceNeg, Int.reducePow, Bool.not_eq_true', decide_eq_false_iff_not, and_assoc, or_true, true_or, ↓reduceIte, if_true, if_false, Bool.false_eq_true, Bool.true_eq_false, not_true_eq_false, not_false_eq_true, Bool.not_true, Bool.not_false, ite_true, ite_false, eq_self, exists_eq, reduceCtorEq, false_and, and_false, or_false, false_or, exists_false, Option.map_some, Option.map_none, scalD, List.all_cons, List.all_nil, List.any_cons, List.any_nil, Bool.and_true, Bool.or_false, Bool.true_and, Bool.false_or, atI_c0, atI_c1, atI_c2, atI_c3, atI_c4, eqv_str, eqv_int, eqv_bool, beq_self_eq_true, shp_int, shp_bl, shp_non, Shp, sizeLine_eq]
      rw [rangeD_len] at hn
      have hpl : ps.length = m.toNat := by
        have := congrArg List.length hn
        rw [List.length_map, List.length_take] at this; omega
      have lm : (List.map Pp.enc ps).length = ps.length := List.length_map _
      refine ⟨by omega, ?_⟩
      generalize htn : a7 / 2 % (m + 1) = tn
      have t0 : 0 ≤ tn := by rw [← htn]; exact Int.emod_nonneg _ (by omega)
      have t1 : tn < m + 1 := by rw [← htn]; exact Int.emod_lt_of_pos _ (by omega)
      rw [cutD_drop t0 (by omega), cutD_take t0 (by omega)]
      refine ⟨by rw [List.length_drop, List.length_take]; omega, ?_⟩
      rw [← List.map_drop, ← List.map_take, ← List.map_append]
      have hp : (ps.drop tn.toNat ++ ps.take tn.toNat).Perm ps := by
        refine List.perm_append_comm.trans ?_
        rw [List.take_append_drop]
      have gp : GoodP ps := ⟨by omega, by rw [hn]; exact snd.sublist (List.take_sublist _ _), fun p hp => sok _ (List.mem_of_mem_take (by rw [← hn]; exact List.mem_map.mpr ⟨p, hp, rfl⟩)), fun p hp => (hg p hp).1, fun p hp => (hg p hp).2⟩
      have hne : ss ≠ [] := fun e => by rw [e] at sl; simp at sl; omega
      have es : ss = ss.dropLast ++ [ss.getLast hne] := (List.dropLast_concat_getLast hne).symm
      have key := q ss.dropLast (ss.getLast hne) (ps.drop tn.toNat ++ ps.take tn.toNat) (gp.perm hp) (by rw [hp.length_eq]; omega) (fun z => ?_) (sok _ (List.getLast_mem hne))
      · rw [← es] at key; exact key
      · have z := (hp.map _).mem_iff.mp z
        rw [hn] at z
        have hd : ss.take m.toNat = ss.dropLast.take m.toNat := by
          rw [es, List.take_append_of_le_length (by rw [List.length_dropLast]; omega)]
          simp
        rw [hd] at z
        have z := List.mem_of_mem_take z
        rw [es] at snd
        exact (List.nodup_append.mp snd).2.2 _ z _ (by simp) rfl
end
end K10

open PySem L2

namespace K10
theorem cs__law_row_0 : CompScope (defScope s__law_row) ["_law_deeds", "_law_name"] ["_law_deed", "_law_name"] 1 [1] { kind := PySem.ScopeKind.function, names := [ (PySem.Str.ofString ".0", PySem.NameKind.local), (PySem.Str.ofString "_law_deed", PySem.NameKind.local), (PySem.Str.ofString "_law_name", PySem.NameKind.free)], isGenerator := false, isCoroutine := false, more := [] : PySem.Scope } := ⟨rfl, by decide +kernel, by decide +kernel, by decide +kernel, rfl, by decide +kernel, by decide +kernel, by decide +kernel, rfl⟩

theorem cs__law_order_0 : CompScope (defScope s__law_order) ["_law_deeds"] ["_law_deed"] 1 [] { kind := PySem.ScopeKind.function, names := [(PySem.Str.ofString ".0", PySem.NameKind.local), (PySem.Str.ofString "_law_deed", PySem.NameKind.local)], isGenerator := false, isCoroutine := false, more := [] : PySem.Scope } := ⟨rfl, by decide +kernel, by decide +kernel, by decide +kernel, rfl, by decide +kernel, by decide +kernel, by decide +kernel, rfl⟩
theorem cs__law_order_1 : CompScope (defScope s__law_order) ["_law_deeds"] ["_law_day", "_law_name"] 2 [] { kind := PySem.ScopeKind.function, names := [ (PySem.Str.ofString ".0", PySem.NameKind.local), (PySem.Str.ofString "_law_day", PySem.NameKind.local), (PySem.Str.ofString "_law_name", PySem.NameKind.local)], isGenerator := false, isCoroutine := false, more := [] : PySem.Scope } := ⟨rfl, by decide +kernel, by decide +kernel, by decide +kernel, rfl, by decide +kernel, by decide +kernel, by decide +kernel, rfl⟩

theorem cs__law_makers_0 : CompScope (defScope s__law_makers) ["_law_deeds", "_law_name", "_law_row_here", "_law_order_here"] ["_law_one", "_law_row_here"] 1 [2] { kind := PySem.ScopeKind.function, names := [ (PySem.Str.ofString ".0", PySem.NameKind.local), (PySem.Str.ofString "_law_one", PySem.NameKind.local), (PySem.Str.ofString "_law_row_here", PySem.NameKind.free)], isGenerator := false, isCoroutine := false, more := [] : PySem.Scope } := ⟨rfl, by decide +kernel, by decide +kernel, by decide +kernel, rfl, by decide +kernel, by decide +kernel, by decide +kernel, rfl⟩

theorem cs__law_back_0 : CompScope (defScope s__law_back) ["_law_near", "_law_name", "_law_some", "_law_at"] ["_law_one", "_law_some"] 1 [2] { kind := PySem.ScopeKind.function, names := [ (PySem.Str.ofString ".0", PySem.NameKind.local), (PySem.Str.ofString "_law_one", PySem.NameKind.local), (PySem.Str.ofString "_law_some", PySem.NameKind.free)], isGenerator := false, isCoroutine := false, more := [] : PySem.Scope } := ⟨rfl, by decide +kernel, by decide +kernel, by decide +kernel, rfl, by decide +kernel, by decide +kernel, by decide +kernel, rfl⟩

section
variable {P : Program} {w : World} {K : PySem.W.Frag} {mg : Str → Option Value} {base : Heap} {t : Adr}
theorem row_one {ps : List Pp} (nd : (ps.map (·.nm)).Nodup) {c : Pp} (hc : c ∈ ps) : ps.filter (fun p => p.nm == c.nm) = [c] := by
  induction ps with
  | nil => cases hc
  | cons x ps ih =>
    rw [List.map_cons, List.nodup_cons] at nd
    rcases List.mem_cons.mp hc with e | h
    · subst e
      rw [List.filter_cons, if_pos (beq_self_eq_true _), List.filter_eq_nil_iff.mpr]
      intro p hp e
      exact nd.1 (by rw [← eq_of_beq e]; exact List.mem_map.mpr ⟨p, hp, rfl⟩)
    · rw [List.filter_cons, if_neg, ih nd.2 h]
      intro e
      exact nd.1 (by rw [eq_of_beq e]; exact List.mem_map.mpr ⟨c, h, rfl⟩)
theorem ok_row (T : Txt K mg t) : FnOk P w K mg base CX0 1 t.a__law_row t.d__law_row ["_law_deeds", "_law_name"] (spD K F_coming) := by
  refine T.F__law_row.okD sc__law_row (fun ds Q h => ?_) (fun cdv A outer s H O ds Q E hr h => ?_)
  · obtain ⟨ps, c, rfl, _⟩ := h; rfl
  · obtain ⟨ps, c, rfl, gd, hc, q⟩ := h
    refine' ⟨_, ?body, ?read⟩
    case body =>
      refine' dss_one ?s1
      case s1 =>
        refine' ds_ret ?e2
        case e2 =>
          refine' de_ix ix_list od_ixL (df ?a3) ?b3
          case a3 =>
            refine' fe ?f4
            case f4 =>
              exact (fe_compTI rfl cs__law_row_0 (df (dv 0)) gd_name keepName (by decide) (fun _ _ _ _ => (pg_name (i := 0) cs__law_row_0.nd rfl (by first | exact Or.inl rfl | exact Or.inr rfl))) (fun _ _ _ _ => (pf_one (PW.pt (dw_and (dt_cmp (op_eqZ hr) od_eqZ (df (de_ix ix_tup od_ixT (df (dv 0)) (df de_int))) (df de_str) (nomark _)) (dw_and1 (dt_cmp (op_eqX hr.units) od_eq (df (de_ix ix_tup od_ixT (df (dv 0)) (df de_int))) (df (dv 1)) (nomark _))))))) (fun _ _ _ _ => (dv 0)))
          case b3 => exact (df de_int)
    case read =>
    clear hr T
    walk_at "rz"
    refine ⟨by rw [List.length_map]; have := gd.ln; omega, compI_pf (fun p => p.nm == c.nm) Pp.enc (fun x hx R S h => ?_) ?_⟩
    · simp only [Pp.enc]
      walk_at "rz"
      exact ⟨shp_str.mpr (gd.nm x hx), shp_str.mpr (gd.nm c hc), h⟩
    · rw [row_one gd.nd hc]
      exact ⟨_, atI_c0, q⟩
def F_order : List PyData → (PyData → Prop) → Prop := fun ds Q => ∃ ps : List Pp, ds = [.tuple (ps.map Pp.enc)] ∧ GoodP ps ∧ Q (.list (((ordP ps).map (·.nm)).map .str))
theorem compI_prs {g : DG} {tc : DB} {te : DT} {δ0 : Dl} {xs : List (Int × Str)} {Q : List PyData → Prop} (f : Int × Str → PyData)
    (h : ∀ x ∈ xs, ∀ (R : PyData → Prop) (S : Prop), R (f x) → g (prD x) δ0 fun δ2 => tc δ2 fun ok => if ok = true then te δ2 R else S) (q : Q (xs.map f)) : compI g tc te δ0 (xs.map prD) Q := by
  refine ⟨fun i acc => acc = (xs.take i).map f, rfl, ?_, ?_⟩
  · rintro i z acc hz rfl
    rw [List.getElem?_map] at hz
    cases hz' : xs[i]? with
    | none => rw [hz'] at hz; cases hz
    | some x =>
      rw [hz'] at hz; cases hz
      refine h x (List.mem_of_getElem? hz') (fun y => (xs.take i).map f ++ [y] = (xs.take (i + 1)).map f) _ ?_
      rw [List.take_succ, hz']; simp
  · rintro acc rfl
    rw [List.length_map, List.take_of_length_le (Nat.le_refl _)]; exact q
theorem ok_order (T : Txt K mg t) : FnOk P w K mg base CX0 1 t.a__law_order t.d__law_order ["_law_deeds"] (spD K F_order) := by
  refine T.F__law_order.okD sc__law_order (fun ds Q h => ?_) (fun cdv A outer s H O ds Q E hr h => ?_)
  · obtain ⟨ps, rfl, _⟩ := h; rfl
  · obtain ⟨ps, rfl, gd, q⟩ := h
    refine' ⟨_, ?body, ?read⟩
    case body =>
      refine' dss_one ?s1
      case s1 =>
        refine' ds_ret ?e2
        case e2 =>
          refine' fe ?f3
          case f3 =>
            exact (fe_compI rfl cs__law_order_1 (df (fe (fe_sortPr rfl T.n_sorted PyProof.Rows.boot_sorted (db_cons (df (fe (fe_compTI rfl cs__law_order_0 (df (dv 0)) gd_name keepName (by decide) (fun _ _ _ _ => (pg_name (i := 0) cs__law_order_0.nd rfl (by first | exact Or.inl rfl | exact Or.inr rfl))) (fun _ _ _ _ => (pf_one (dt_cmp (op_eqZ hr) od_eqZ (df (de_ix ix_tup od_ixT (df (dv 0)) (df de_int))) (df de_str) (nomark _)))) (fun _ _ _ _ => (de_tup (da_cons (de_ix ix_tup od_ixT (df (dv 0)) (df de_int)) (da_cons (de_ix ix_tup od_ixT (df (dv 0)) (df de_int)) da_nil))))))) db_nil)))) (gd_tup (gds_cons gd_name (gds_cons gd_name gds_nil))) keepTup (by decide) (fun _ _ _ _ => (pg_tup (n := 2) rfl (pgs_cons (pg_name (i := 0) cs__law_order_1.nd rfl (by first | exact Or.inl rfl | exact Or.inr rfl)) (pgs_cons (pg_name (i := 1) cs__law_order_1.nd rfl (by first | exact Or.inl rfl | exact Or.inr rfl)) pgs_nil)))) (fun _ _ _ _ => pf_nilD) (fun _ _ _ _ => (dv 1)))
    case read =>
    clear hr T
    have ln := gd.ln
    walk_at "rz"
    refine ⟨by rw [List.length_map]; omega, compI_pf (fun _ => true) (fun p => prD p.key) (fun x hx R S h => ?_) ?_⟩
    · simp only [Pp.enc]
      walk_at "rz"
      rw [if_pos rfl] at h
      exact h
    · rw [filter_true]
      refine ⟨ps.map Pp.key, by rw [List.map_map]; rfl, by rw [List.length_map]; omega, key_nd gd.nd, fun ps' h1 h2 => ?_⟩
      rw [ordP_pairs gd.nd h1 h2]
      refine ⟨by rw [List.length_map, List.length_map, ordP_len]; omega, compI_prs (fun x => .str x.2) (fun x hx R S h => ?_) ?_⟩
      · simp only [prD]
        walk_at "rz"
        exact h
      · rw [List.map_map]; rw [List.map_map] at q; exact q
def F_mks : List PyData → (PyData → Prop) → Prop := fun ds Q => ∃ (ps : List Pp) (c : Pp), ds = [.tuple (ps.map Pp.enc), .str c.nm] ∧ GoodP ps ∧ c ∈ ps ∧ Q (.list (((mksP ps c).map (·.nm)).map .str))
theorem ok_mks (T : Txt K mg t) : FnOk P w K mg base CX0 2 t.a__law_makers t.d__law_makers ["_law_deeds", "_law_name"] (spD K F_mks) := by
  have G__law_row := ok_row (P := P) (w := w) (base := base) T
  have G__law_order := ok_order (P := P) (w := w) (base := base) T
  refine T.F__law_makers.okD sc__law_makers (fun ds Q h => ?_) (fun cdv A outer s H O ds Q E hr h => ?_)
  · obtain ⟨ps, c, rfl, _⟩ := h; rfl
  · obtain ⟨ps, c, rfl, gd, hc, q⟩ := h
    refine' ⟨_, ?body, ?read⟩
    case body =>
      refine' dss_cons ?s1 ?r1
      case s1 =>
        exact (ds_set (i := 2) sc__law_makers.nd rfl (by first | exact Or.inl rfl | exact Or.inr rfl) (PE.imp (pe_call G__law_row (hr.mono (by decide)) rfl T.m__law_row T.F__law_row.kp T.b__law_row .nil pass0 (da_cons (dv 0) (da_cons (dv 1) da_nil))) dcall))
      case r1 =>
        refine' dss_cons ?s3 ?r3
        case s3 =>
          exact (ds_set (i := 3) sc__law_makers.nd rfl (by first | exact Or.inl rfl | exact Or.inr rfl) (PE.imp (pe_call G__law_order (hr.mono (by decide)) rfl T.m__law_order T.F__law_order.kp T.b__law_order .nil pass0 (da_cons (dv 0) da_nil)) dcall))
        case r3 =>
          refine' dss_one ?s5
          case s5 =>
            refine' ds_ret ?e6
            case e6 =>
              refine' fe ?f7
              case f7 =>
                exact (fe_compI rfl cs__law_makers_0 (df (fe (fe_slice (df (dv 3)) do_none (do_some (de_index (dv 3) (dv 1)))))) gd_name keepName (by decide) (fun _ _ _ _ => (pg_name (i := 0) cs__law_makers_0.nd rfl (by first | exact Or.inl rfl | exact Or.inr rfl))) (fun _ _ _ _ => (pf_one (dt_cmp (op_inX hr) od_inX (df (dv 0)) (df (de_ix ix_tup od_ixT (df (dv 1)) (df de_int))) rfl))) (fun _ _ _ _ => (dv 0)))
    case read =>
    clear hr T G__law_row G__law_order
    have ln := gd.ln
    walk_at "rz"
    refine ⟨ps, c, rfl, gd, hc, ps, rfl, gd, ?_⟩
    walk_at "rz"
    have hc' : c.nm ∈ (ordP ps).map (·.nm) := List.mem_map.mpr ⟨c, ordP_mem.mpr hc, rfl⟩
    have hlt : ((ordP ps).map (·.nm)).idxOf c.nm < ((ordP ps).map (·.nm)).length := List.idxOf_lt_length_iff.mpr hc'
    have hlt' : ((ordP ps).map (·.nm)).idxOf c.nm < (ordP ps).length := by simpa using hlt
    have hat : (ordP ps)[((ordP ps).map (·.nm)).idxOf c.nm]? = some c := by
      rw [List.getElem?_eq_getElem hlt']
      have h1 := List.getElem_idxOf hlt
      rw [List.getElem_map] at h1
      rw [uniq_nm gd.nd (ordP_mem.mp (List.getElem_mem hlt')) hc h1]
    have ecut : cutD (List.map PyData.str (List.map (fun x => x.nm) (ordP ps))) none (some ((((ordP ps).map (·.nm)).idxOf c.nm : Nat) : Int)) = (((ordP ps).filter fun p => ltP p.key c.key).map (·.nm)).map .str := by
      rw [cutD_take (by omega) (by rw [List.length_map]; omega), Int.toNat_natCast, ← take_eq_filter (ordP_pw gd.nd) hat, ← List.map_take, ← List.map_take]
    refine ⟨_, rfl, hc', ?_⟩
    rw [ecut]
    have fl := List.length_filter_le (fun p : Pp => ltP p.key c.key) (ordP ps)
    rw [ordP_len] at fl
    obtain ⟨hm1, hm2⟩ := gd.ms c hc
    refine ⟨by rw [List.length_map, List.length_map]; omega, compI_sf (fun z => c.ms.contains z) .str (fun x hx R S h => ?_) ?_⟩
    · simp only [Pp.enc]
      walk_at "rz"
      obtain ⟨p, hp, rfl⟩ := List.mem_map.mp hx
      refine ⟨shp_str.mpr (gd.nm p (ordP_mem.mp (List.mem_filter.mp hp).1)), lay_ss hm1, ?_⟩
      rw [in_strs]
      exact h
    · have e : ((((ordP ps).filter fun p => ltP p.key c.key).map (·.nm)).filter fun z => c.ms.contains z) = (mksP ps c).map (·.nm) := by
        rw [List.filter_map, List.filter_filter]; rfl
      rw [e]
      exact q
/-- what the law's dict holds -/
def nearD (ps : List Pp) : PyData := dicD ((ordP ps).map (·.nm)) ((ordP ps).map fun o => .list (((mksP ps o).map (·.nm)).map .str))
theorem Anc.head {ps : List Pp} {a b c : Pp} (h : MkP ps a b) (h2 : Anc ps b c) : Anc ps a c := by
  induction h2 with
  | one h2 => exact .more (.one h) h2
  | more _ h2 ih => exact .more ih h2
theorem atS_ord {f : Pp → PyData} : ∀ {os : List Pp} {o : Pp}, o ∈ os → (os.map (·.nm)).Nodup → atS (os.map (·.nm)) (os.map f) o.nm = some (f o)
  | x :: os, o, ho, nd => by
    rw [List.map_cons, List.nodup_cons] at nd
    rw [List.map_cons, List.map_cons]
    unfold atS
    rcases List.mem_cons.mp ho with e | h
    · rw [e, if_pos rfl]
    · rw [if_neg fun e => nd.1 (by rw [e]; exact List.mem_map.mpr ⟨o, h, rfl⟩)]
      exact atS_ord h nd.2
theorem ordP_nd {ps : List Pp} (g : GoodP ps) : (ordP ps).Nodup := List.Pairwise.imp (R := Pp.lt) (fun {a b} (z : a.lt b) (e : a = b) => Pp.lt_irr a (by rw [← e] at z; exact z)) (ordP_pw g.nd)
theorem nd_len {as ps : List Pp} (nd : as.Nodup) (h : ∀ a ∈ as, a ∈ ps) : as.length ≤ ps.length := by
  induction as generalizing ps with
  | nil => simp
  | cons a as ih =>
    rw [List.nodup_cons] at nd
    obtain ⟨l, r, e⟩ := List.append_of_mem (h a (by simp))
    have := ih (ps := l ++ r) nd.2 fun b hb => by
      have hb' := h b (by simp [hb])
      rw [e] at hb'
      rcases List.mem_append.mp hb' with z | z
      · exact List.mem_append_left _ z
      · rcases List.mem_cons.mp z with z | z
        · exact absurd (by rw [← z]; exact hb) nd.1
        · exact List.mem_append_right _ z
    rw [e, List.length_append, List.length_cons, List.length_cons]
    rw [List.length_append] at this
    omega
def F_back : List PyData → (PyData → Prop) → Prop := fun ds Q => ∃ (ps : List Pp) (c : Pp), ds = [nearD ps, .str c.nm] ∧ GoodP ps ∧ c ∈ ps ∧ ∀ as : List Pp, (∀ a, a ∈ as ↔ Anc ps a c) → as.length ≤ 41 → Q (.list ((as.map (·.nm)).map .str))
theorem ok_back (T : Txt K mg t) : FnOk P w K mg base CX0 1 t.a__law_back t.d__law_back ["_law_near", "_law_name"] (spD K F_back) := by
  refine T.F__law_back.okD sc__law_back (fun ds Q h => ?_) (fun cdv A outer s H O ds Q E hr h => ?_)
  · obtain ⟨ps, c, rfl, _⟩ := h; rfl
  · obtain ⟨ps, c, rfl, gd, hc, q⟩ := h
    refine' ⟨_, ?body, ?read⟩
    case body =>
      refine' dss_cons ?s1 ?r1
      case s1 =>
        exact (ds_new (i := 2) sc__law_back.nd rfl (by first | exact Or.inl rfl | exact Or.inr rfl) (fe_listOf rfl T.n_list bt_list (db_cons (df (de_getD hr.units (dv 0) (dv 1) (fun _ _ => rfl))) db_nil)))
      case r1 =>
        refine' dss_cons ?s3 ?r3
        case s3 =>
          exact (ds_set (i := 3) sc__law_back.nd rfl (by first | exact Or.inl rfl | exact Or.inr rfl) de_int)
        case r3 =>
          refine' dss_cons ?s5 ?r5
          case s5 =>
            refine' ds_while PassesOwn.never ?c6 ?b6
            case c6 => exact (dt_cmp op_lt od_bl (df (dv 3)) (df (PE.imp (pe_callB call_len_seq rfl T.n_len PySem.boot_len (db_cons (dw 2) db_nil)) (dcb cd_len))) (nomark _))
            case b6 =>
              refine' dss_cons ?s7 ?r7
              case s7 =>
                exact (ds_ext (i := 2) (pv 2) (fe_compI rfl cs__law_back_0 (df (de_getD hr.units (dv 0) (de_ix ix_list od_ixL (dw 2) (df (dv 3))) (fun _ _ => rfl))) gd_name keepName (by decide) (fun _ _ _ _ => (pg_name (i := 0) cs__law_back_0.nd rfl (by first | exact Or.inl rfl | exact Or.inr rfl))) (fun _ _ _ _ => (pf_one (dt_cmp (op_notInX hr) od_inX (df (dv 0)) (dw 1) rfl))) (fun _ _ _ _ => (dv 0))))
              case r7 =>
                refine' dss_one ?s9
                case s9 =>
                  exact (ds_set (i := 3) sc__law_back.nd rfl (by first | exact Or.inl rfl | exact Or.inr rfl) (de_op op_add od_int (df (dv 3)) (df de_int)))
          case r5 =>
            refine' dss_one ?s11
            case s11 =>
              exact (ds_retO (pv 2))
    case read =>
    clear hr T
    have ln := gd.ln
    have near : ∀ o ∈ ps, atS ((ordP ps).map (·.nm)) ((ordP ps).map fun o => PyData.list (((mksP ps o).map (·.nm)).map .str)) o.nm = some (.list (((mksP ps o).map (·.nm)).map .str)) := fun o ho => atS_ord (ordP_mem.mpr ho) ((ordP_perm ps).map _ |>.nodup_iff.mpr gd.nd)
    unfold nearD
    walk_at "rz"
    refine ⟨_, _, rfl, _, near c hc, _, .inl rfl, ?_⟩
    refine ⟨fun m δ => ∃ (as : List Pp) (i : Nat), as.Nodup ∧ (∀ a ∈ as, Anc ps a c) ∧ (∀ a ∈ mksP ps c, a ∈ as) ∧ (∀ j a, j < i → as[j]? = some a → ∀ b ∈ mksP ps a, b ∈ as) ∧ i ≤ as.length ∧ m + i = 41 ∧ δ = [some (Sl.v (dicD ((ordP ps).map (·.nm)) ((ordP ps).map fun o => PyData.list (((mksP ps o).map (·.nm)).map .str)))), some (Sl.v (.str c.nm)), some (Sl.o ((as.map (·.nm)).map .str)), some (Sl.v (.int (i : Int)))], ⟨41, mksP ps c, 0, ?_, ?_, fun _ h => h, fun j a h => absurd h (by omega), Nat.zero_le _, rfl, rfl⟩, ?_⟩
    · exact ((ordP_nd gd).sublist List.filter_sublist)
    · exact fun a ha => .one ((mksP_mem hc).mp ha)
    · rintro m δ ⟨as, i, nd, anc, h1, h2, hi, hmi, rfl⟩
      have al : as.length ≤ ps.length := nd_len nd fun a ha => (anc a ha).mem.1
      walk_at "rz"
      have lm : (List.map PyData.str (List.map (fun x : Pp => x.nm) as)).length = as.length := by rw [List.length_map, List.length_map]
      split
      · rename_i hlt
        have hlt : i < as.length := by omega
        have hai : as[i]? = some as[i] := List.getElem?_eq_getElem hlt
        have ham : as[i] ∈ as := List.getElem_mem hlt
        have hap : as[i] ∈ ps := (anc _ ham).mem.1
        have e1 : atI (List.map PyData.str (List.map (fun x : Pp => x.nm) as)) (i : Int) = some (.str as[i].nm) := atI_nat (by rw [List.getElem?_map, List.getElem?_map, hai]; rfl)
        have ml := mks_len (c := as[i]) gd
        have sok : ∀ z ∈ as.map (·.nm), PyData.strOk z = true := fun z hz => by
          obtain ⟨a, ha, rfl⟩ := List.mem_map.mp hz
          exact gd.nm a (anc a ha).mem.1
        refine ⟨_, _, rfl, _, e1, _, rfl, _, near _ hap, _, rfl, by rw [List.length_map, List.length_map]; omega, compI_sf (fun z => !(as.map (·.nm)).contains z) .str (fun x hx R S h => ?_) ?_⟩
        · walk_at "rz"
          obtain ⟨b, hb, rfl⟩ := List.mem_map.mp hx
          refine ⟨shp_str.mpr (gd.nm b ((mksP_mem hap).mp hb).1), lay_ss sok, ?_⟩
          rw [in_strs]
          cases e : (as.map (·.nm)).contains b.nm with
          | true => rw [e, if_neg (by decide)] at h; rw [if_neg (by decide)]; exact h
          | false => rw [e, if_pos (by rfl)] at h; rw [if_pos rfl]; exact h
        · have e2 : (((mksP ps as[i]).map (·.nm)).filter fun z => !(as.map (·.nm)).contains z) = ((mksP ps as[i]).filter fun b => !(as.map (·.nm)).contains b.nm).map (·.nm) := by
            rw [List.filter_map]; rfl
          rw [e2]
          have fl := List.length_filter_le (fun b : Pp => !(as.map (·.nm)).contains b.nm) (mksP ps as[i])
          have newm : ∀ b, b ∈ (mksP ps as[i]).filter (fun b => !(as.map (·.nm)).contains b.nm) ↔ b ∈ mksP ps as[i] ∧ b ∉ as := fun b => by
            rw [List.mem_filter]
            refine and_congr_right fun hb => ?_
            rw [Bool.not_eq_true', ← Bool.not_eq_true, List.contains_iff_mem]
            refine not_congr ⟨fun h => ?_, fun h => List.mem_map.mpr ⟨b, h, rfl⟩⟩
            obtain ⟨a, ha, e⟩ := List.mem_map.mp h
            rw [← uniq_nm gd.nd (anc a ha).mem.1 ((mksP_mem hap).mp hb).1 e]; exact ha
          refine ⟨by rw [List.length_map, List.length_map, List.length_map, List.length_map]; omega, m - 1, by omega, as ++ (mksP ps as[i]).filter (fun b => !(as.map (·.nm)).contains b.nm), ?_, fun a ha => ?_, fun a ha => List.mem_append_left _ (h1 a ha), i + 1, fun j a hj ea b hb => ?_, by rw [List.length_append]; omega, by omega, by rw [List.map_append, List.map_append], by omega⟩
          · rw [List.nodup_append]
            refine ⟨nd, ((ordP_nd gd).sublist List.filter_sublist).sublist List.filter_sublist, fun a ha b hb e => ?_⟩
            rw [e] at ha
            exact ((newm b).mp hb).2 ha
          · rcases List.mem_append.mp ha with h | h
            · exact anc a h
            · exact Anc.head ((mksP_mem hap).mp ((newm a).mp h).1) (anc _ ham)
          · rw [List.getElem?_append_left (by omega)] at ea
            rcases Nat.lt_or_ge j i with hji | hji
            · exact List.mem_append_left _ (h2 j a hji ea b hb)
            · have : j = i := by omega
              subst this
              rw [hai] at ea
              cases ea
              by_cases hm : b ∈ as
              · exact List.mem_append_left _ hm
              · exact List.mem_append_right _ ((newm b).mpr ⟨hb, hm⟩)
      · rename_i hge
        have hge : as.length ≤ i := by omega
        refine q as (fun a => ⟨anc a, fun h => ?_⟩) (by omega)
        have key : ∀ x y, Anc ps x y → (y = c ∨ y ∈ as) → x ∈ as := by
          have one : ∀ x y, MkP ps x y → (y = c ∨ y ∈ as) → x ∈ as := fun x y h hy => by
            rcases hy with hy | hy
            · rw [hy] at h; exact h1 x ((mksP_mem hc).mpr h)
            · obtain ⟨j, hj⟩ := List.getElem?_of_mem hy
              exact h2 j y (Nat.lt_of_lt_of_le (List.getElem?_eq_some_iff.mp hj).1 hge) hj x ((mksP_mem h.2.1).mpr h)
          intro x y h
          induction h with
          | one h => exact one _ _ h
          | more _ h ih => exact fun hy => ih (.inr (one _ _ h hy))
        exact key a c h (.inl rfl)
end
end K10

open PySem L2

namespace K10
theorem cs__law_right_0 : CompScope (defScope s__law_right) ["_law_deeds", "_law_order_here", "_law_near", "_law_back_here", "_law_name", "_law_at", "_law_told_here"] ["_law_one"] 1 [] { kind := PySem.ScopeKind.function, names := [ (PySem.Str.ofString ".0", PySem.NameKind.local), (PySem.Str.ofString "_law_one", PySem.NameKind.local), (PySem.Str.ofString "isinstance", PySem.NameKind.globalImplicit), (PySem.Str.ofString "str", PySem.NameKind.globalImplicit)], isGenerator := false, isCoroutine := false, more := [] : PySem.Scope } := ⟨rfl, by decide +kernel, by decide +kernel, by decide +kernel, rfl, by decide +kernel, by decide +kernel, by decide +kernel, rfl⟩
theorem cs__law_right_1 : CompScope (defScope s__law_right) ["_law_deeds", "_law_order_here", "_law_near", "_law_back_here", "_law_name", "_law_at", "_law_told_here"] ["_law_one", "_law_order_here", "_law_at", "_law_back_here"] 1 [1, 5, 3] { kind := PySem.ScopeKind.function, names := [ (PySem.Str.ofString ".0", PySem.NameKind.local), (PySem.Str.ofString "_law_one", PySem.NameKind.local), (PySem.Str.ofString "_law_at", PySem.NameKind.free), (PySem.Str.ofString "_law_back_here", PySem.NameKind.free), (PySem.Str.ofString "_law_order_here", PySem.NameKind.free)], isGenerator := false, isCoroutine := false, more := [] : PySem.Scope } := ⟨rfl, by decide +kernel, by decide +kernel, by decide +kernel, rfl, by decide +kernel, by decide +kernel, by decide +kernel, rfl⟩

section
variable {P : Program} {w : World} {K : PySem.W.Frag} {mg : Str → Option Value} {base : Heap} {t : Adr}
theorem valD_putS {kd : List (Key × PyData)} {k : Key} {d : PyData} : valD (putD kd k d) k = some d := by
  unfold putD valD
  split
  · rename_i h
    induction kd with
    | nil => simp at h
    | cons p kd ih =>
      rw [List.map_cons, List.find?_cons]
      by_cases e : p.1 = k
      · simp [e]
      · have : (kd.any fun p => decide (p.1 = k)) = true := by simpa [e] using h
        rw [if_neg e]
        rw [decide_eq_false e]
        exact ih this
  · rename_i h
    rw [List.find?_append]
    rw [show kd.find? (fun p => decide (p.1 = k)) = none from List.find?_eq_none.mpr fun p hp e => h (List.any_eq_true.mpr ⟨p, hp, e⟩)]
    simp
theorem valD_putN {kd : List (Key × PyData)} {k k' : Key} {d : PyData} (hk : k' ≠ k) : valD (putD kd k d) k' = valD kd k' := by
  unfold putD valD
  split
  · rename_i h
    clear h
    induction kd with
    | nil => rfl
    | cons p kd ih =>
      rw [List.map_cons, List.find?_cons, List.find?_cons]
      by_cases e : p.1 = k
      · rw [if_pos e]
        have e2 : p.1 ≠ k' := fun z => hk (z.symm.trans e)
        simp only [decide_eq_false e2]
        exact ih
      · rw [if_neg e]
        by_cases e2 : p.1 = k'
        · simp only [decide_eq_true e2]
        · simp only [decide_eq_false e2]
          exact ih
  · rw [List.find?_append]
    have e : ([(k, d)].find? fun p => decide (p.1 = k')) = none := by
      rw [List.find?_cons, decide_eq_false (Ne.symm hk)]; rfl
    rw [e, Option.or_none]
/-- a comprehension over papers' names that keeps some -/
theorem compI_nf {g : DG} {tc : DB} {te : DT} {δ0 : Dl} {os : List Pp} {Q : List PyData → Prop} (p : Pp → Bool) (f : Pp → PyData)
    (h : ∀ x ∈ os, ∀ (R : PyData → Prop) (S : Prop), (if p x = true then R (f x) else S) → g (.str x.nm) δ0 fun δ2 => tc δ2 fun ok => if ok = true then te δ2 R else S) (q : Q ((os.filter p).map f)) : compI g tc te δ0 ((os.map (·.nm)).map .str) Q := by
  refine ⟨fun i acc => acc = ((os.take i).filter p).map f, rfl, ?_, ?_⟩
  · rintro i z acc hz rfl
    rw [List.getElem?_map, List.getElem?_map] at hz
    cases hz' : os[i]? with
    | none => rw [hz'] at hz; cases hz
    | some x =>
      rw [hz'] at hz; cases hz
      refine h x (List.mem_of_getElem? hz') (fun y => ((os.take i).filter p).map f ++ [y] = ((os.take (i + 1)).filter p).map f) (((os.take i).filter p).map f = ((os.take (i + 1)).filter p).map f) ?_
      rw [List.take_succ, hz']
      by_cases e : p x = true
      · rw [if_pos e]; simp [e]
      · rw [if_neg e]; simp [e]
  · rintro acc rfl
    rw [List.length_map, List.length_map, List.take_of_length_le (Nat.le_refl _)]; exact q
theorem eqvAll_strs (ss : List Str) : PyData.eqvAll (ss.map .str) (ss.map .str) = true := by
  induction ss with
  | nil => rfl
  | cons a ss ih => rw [List.map_cons, PyData.eqvAll, ih, eqv_str]; simp
theorem eqv_strs (ss : List Str) : (PyData.list (ss.map .str)).eqv (.list (ss.map .str)) = true := by
  rw [PyData.eqv]; exact eqvAll_strs ss
/-- for each paper its dict row -/
def HasBack (ps : List Pp) (kd : List (Key × PyData)) (o : Pp) : Prop := ∃ as : List Pp, valD kd (.inr o.nm) = some (.list ((as.map (·.nm)).map .str)) ∧ (∀ a, a ∈ as ↔ Anc ps a o) ∧ as.length ≤ 41
def F_right : List PyData → (PyData → Prop) → Prop := fun ds Q => ∃ ps : List Pp, ds = [.tuple (ps.map Pp.enc), .list (((ordP ps).map (·.nm)).map .str), nearD ps] ∧ GoodP ps ∧ Q (.bool true)
theorem ok_right (T : Txt K mg t) : FnOk P w K mg base CX0 8 t.a__law_right t.d__law_right ["_law_deeds", "_law_order_here", "_law_near"] (spD K F_right) := by
  have G__law_back := ok_back (P := P) (w := w) (base := base) T
  have G_made_of := ok_made (P := P) (w := w) (base := base) T
  refine T.F__law_right.okD sc__law_right (fun ds Q h => ?_) (fun cdv A outer s H O ds Q E hr h => ?_)
  · obtain ⟨ps, rfl, _⟩ := h; rfl
  · obtain ⟨ps, rfl, gd, q⟩ := h
    refine' ⟨_, ?body, ?read⟩
    case body =>
      refine' dss_cons ?s1 ?r1
      case s1 =>
        exact (ds_newK (i := 3) sc__law_right.nd rfl (by first | exact Or.inl rfl | exact Or.inr rfl) ke_emp)
      case r1 =>
        refine' dss_cons ?s3 ?r3
        case s3 =>
          refine' ds_forI PassesOwn.never rfl (dv 1) ?a4 gd_name ?b4
          case a4 => exact (pg_name (i := 4) sc__law_right.nd rfl (by first | exact Or.inl rfl | exact Or.inr rfl))
          case b4 =>
            refine' dss_one ?s5
            case s5 =>
              exact (ds_putK (i := 3) hr.units (pv 3) (dv 4) (PE.imp (pe_call G__law_back (hr.mono (by decide)) rfl T.m__law_back T.F__law_back.kp T.b__law_back .nil pass0 (da_cons (dv 2) (da_cons (dv 4) da_nil))) dcall))
        case r3 =>
          refine' dss_cons ?s7 ?r7
          case s7 =>
            refine' ds_forI PassesOwn.never rfl (fe (fe_cat (df (fe (fe_listRg rfl rfl T.n_list bt_list rfl T.n_range (db_cons (df de_int) (db_cons (df (PE.imp (pe_callB call_len_seq rfl T.n_len PySem.boot_len (db_cons (df (dv 1)) db_nil)) (dcb cd_len))) (db_cons (df (de_op op_add od_int (df de_int) (df (de_op op_fdiv od_intC (df (PE.imp (pe_callB call_len_seq rfl T.n_len PySem.boot_len (db_cons (df (dv 1)) db_nil)) (dcb cd_len))) (df de_int))))) db_nil)))))) (df (fe (fe_slice (df (fe (fe_lst (da_cons (de_op op_sub od_int (df (PE.imp (pe_callB call_len_seq rfl T.n_len PySem.boot_len (db_cons (df (dv 1)) db_nil)) (dcb cd_len))) (df de_int)) da_nil)))) do_none (do_some (PE.imp (pe_callB call_len_seq rfl T.n_len PySem.boot_len (db_cons (df (dv 1)) db_nil)) (dcb cd_len)))))))) ?a8 gd_name ?b8
            case a8 => exact (pg_name (i := 5) sc__law_right.nd rfl (by first | exact Or.inl rfl | exact Or.inr rfl))
            case b8 =>
              refine' dss_cons ?s9 ?r9
              case s9 =>
                exact (ds_set (i := 6) sc__law_right.nd rfl (by first | exact Or.inl rfl | exact Or.inr rfl) (PE.imp (pe_call G_made_of (hr.mono (by decide)) rfl T.m_made_of T.F_made_of.kp T.b_made_of .nil pass0 (da_cons (dv 0) (da_cons (de_ix ix_list od_ixL (df (dv 1)) (df (dv 5))) da_nil))) dcall))
              case r9 =>
                refine' dss_cons ?s11 ?r11
                case s11 =>
                  refine' ds_if ?c12 ?a12 ?b12
                  case c12 => exact (PW.pt (dw_or (dt_not (dt_val (de_isinC (K' := K) (T := "tuple") rfl rfl T.n_isinstance bt_isinstance (df (dv 6)) (pe_bltn (v := .ty "tuple") rfl T.n_tuple bt_tuple rfl)))) (dw_or1 (dt_not (dt_val (PE.imp (pe_callB (call_all rfl) rfl T.n_all bt_all (db_cons (df (fe (fe_compTI rfl cs__law_right_0 (df (dv 6)) gd_name keepName (by decide) (fun _ _ _ _ => (pg_name (i := 0) cs__law_right_0.nd rfl (by first | exact Or.inl rfl | exact Or.inr rfl))) (fun _ _ _ _ => pf_nilD) (fun _ _ _ _ => (de_isinC (K' := K) (T := "str") rfl rfl T.n_isinstance bt_isinstance (df (dv 0)) (pe_bltn (v := .ty "str") rfl T.n_str bt_str rfl)))))) db_nil)) (dcb cd_any)))))))
                  case a12 =>
                    refine' dss_one ?s13
                    case s13 =>
                      exact (ds_ret de_bl)
                  case b12 =>
                    exact dss_nil
                case r11 =>
                  refine' dss_one ?s15
                  case s15 =>
                    refine' ds_if ?c16 ?a16 ?b16
                    case c16 => exact (dt_cmp (op_neX hr.units) od_ne (df (fe (fe_listOf rfl T.n_list bt_list (db_cons (df (dv 6)) db_nil)))) (df (fe (fe_compI rfl cs__law_right_1 (df (fe (fe_slice (df (dv 1)) (do_some (de_op op_add od_int (df (dv 5)) (df de_int))) do_none))) gd_name keepName (by decide) (fun _ _ _ _ => (pg_name (i := 0) cs__law_right_1.nd rfl (by first | exact Or.inl rfl | exact Or.inr rfl))) (fun _ _ _ _ => (pf_one (dt_cmp (op_inX hr) od_inX (df (de_ix ix_list od_ixL (df (dv 1)) (df (dv 2)))) (df (de_getK (i := 3) hr.units (pv 3) (dv 0) (fun _ _ => rfl))) rfl))) (fun _ _ _ _ => (dv 0))))) (nomark _))
                    case a16 =>
                      refine' dss_one ?s17
                      case s17 =>
                        exact (ds_ret de_bl)
                    case b16 =>
                      exact dss_nil
          case r7 =>
            refine' dss_one ?s19
            case s19 =>
              exact (ds_ret de_bl)
    case read =>
    clear hr T G__law_back G_made_of
    have ln := gd.ln
    have ol := ordP_len (ps := ps)
    walk_at "rz"
    refine ⟨fun i δ => ∃ kd o4 o5 o6, (∀ o ∈ (ordP ps).take i, HasBack ps kd o) ∧ kd.length ≤ i ∧ δ = [some (Sl.v (PyData.tuple (List.map Pp.enc ps))), some (Sl.v (PyData.list (List.map PyData.str (List.map (fun x => x.nm) (ordP ps))))), some (Sl.v (nearD ps)), some (Sl.k kd), o4, o5, o6], ⟨[], _, _, _, by simp, by simp, rfl⟩, ?_, ?_⟩
    · rintro i z δ hz ⟨kd, o4, o5, o6, hk, hl, rfl⟩
      rw [List.getElem?_map, List.getElem?_map] at hz
      cases hz' : (ordP ps)[i]? with
      | none => rw [hz'] at hz; cases hz
      | some o =>
        rw [hz'] at hz; cases hz
        have ho := ordP_mem.mp (List.mem_of_getElem? hz')
        have hi : i < 41 := by have := (List.getElem?_eq_some_iff.mp hz').1; omega
        walk_at "rz"
        refine ⟨ps, o, rfl, gd, ho, fun as ha hal => ⟨by omega, _, ?_, ?_, rfl, _, rfl⟩⟩
        · intro x hx
          rw [List.take_succ, hz'] at hx
          by_cases e : x.nm = o.nm
          · have := uniq_nm gd.nd (ordP_mem.mp (by rcases List.mem_append.mp hx with z | z; exact List.mem_of_mem_take z; simp at z; rw [z]; exact ordP_mem.mpr ho)) ho e
            subst this
            exact ⟨as, valD_putS, ha, hal⟩
          · rcases List.mem_append.mp hx with z | z
            · obtain ⟨as', h1, h2⟩ := hk x z
              exact ⟨as', by rw [valD_putN (fun z => e (Sum.inr.inj z))]; exact h1, h2⟩
            · simp at z; exact absurd (by rw [z]) e
        · have := putD_len (kd := kd) (k := .inr o.nm) (d := .list ((as.map (·.nm)).map .str)); omega
    · rintro δ ⟨kd, o4, o5, o6, hk, hl, rfl⟩
      rw [List.length_map, List.length_map, List.take_of_length_le (Nat.le_refl _)] at hk
      walk_at "rz"
      have lm : (List.map PyData.str (List.map (fun x : Pp => x.nm) (ordP ps))).length = (ordP ps).length := by rw [List.length_map, List.length_map]
      refine ⟨by omega, by omega, by omega, by omega, fun js hj jl => ?_⟩
      rw [lm] at hj ⊢
      have hcut : ∀ x ∈ cutD [PyData.int ((((ordP ps).length : Nat) : Int) - 1)] none (some ((ordP ps).length : Int)), x = .int ((((ordP ps).length : Nat) : Int) - 1) ∧ 0 < (ordP ps).length := fun x hx => by
        rcases Nat.eq_zero_or_pos (ordP ps).length with z | z
        · rw [z, cutD_take (by omega) (by simp)] at hx; simp at hx
        · refine ⟨?_, z⟩
          unfold cutD at hx
          have := List.mem_of_mem_drop (List.mem_of_mem_take hx)
          simpa using this
      have hcl : (cutD [PyData.int ((((ordP ps).length : Nat) : Int) - 1)] none (some ((ordP ps).length : Int))).length ≤ 1 := by
        unfold cutD
        rw [List.length_take, List.length_drop]
        simp
        omega
      generalize cutD [PyData.int ((((ordP ps).length : Nat) : Int) - 1)] none (some ((ordP ps).length : Int)) = L2 at *
      refine ⟨by rw [List.length_map]; omega, ?_⟩
      have hL : ∀ x ∈ js.map PyData.int ++ L2, ∃ j : Nat, x = .int (j : Int) ∧ j < (ordP ps).length := fun x hx => by
        rcases List.mem_append.mp hx with h | h
        · obtain ⟨j, hj', rfl⟩ := List.mem_map.mp h
          obtain ⟨a, b⟩ := hj j hj'
          exact ⟨j.toNat, by rw [Int.toNat_of_nonneg a], by omega⟩
        · obtain ⟨a, b⟩ := hcut x h
          exact ⟨(ordP ps).length - 1, by rw [a]; congr 1; omega, by omega⟩
      generalize js.map PyData.int ++ L2 = L at *
      refine ⟨fun i δ => ∃ o5 o6, δ = [some (Sl.v (PyData.tuple (List.map Pp.enc ps))), some (Sl.v (PyData.list (List.map PyData.str (List.map (fun x => x.nm) (ordP ps))))), some (Sl.v (nearD ps)), some (Sl.k kd), o4, o5, o6], ⟨_, _, rfl⟩, ?_, ?_⟩
      · rintro i z δ hz ⟨o5, o6, rfl⟩
        obtain ⟨j, rfl, hjl⟩ := hL z (List.mem_of_getElem? hz)
        have hoj : (ordP ps)[j]? = some (ordP ps)[j] := List.getElem?_eq_getElem hjl
        have ho : (ordP ps)[j] ∈ ps := ordP_mem.mp (List.getElem_mem hjl)
        generalize (ordP ps)[j] = o at hoj ho
        have e1 : atI (List.map PyData.str (List.map (fun x : Pp => x.nm) (ordP ps))) (j : Int) = some (.str o.nm) := atI_nat (by rw [List.getElem?_map, List.getElem?_map, hoj]; rfl)
        have mdl : (madeP ps o).length ≤ 41 := by
          unfold madeP
          have := List.length_filter_le (ancB ps o) (ordP ps)
          omega
        walk_at "rz"
        refine ⟨_, e1, ps, o, rfl, gd, ho, ?_⟩
        walk_at "rz"
        refine ⟨true, rfl, fun _ => trivial, ?_⟩
        rw [if_neg Bool.noConfusion]
        have en : ∀ l : List Pp, (l.map fun p => PyData.str p.nm) = (l.map (·.nm)).map .str := fun l => by rw [List.map_map]; rfl
        have shp : Shp (.list ((madeP ps o).map fun p => PyData.str p.nm)) := by
          rw [en]
          refine (lay_lst (n := 1) (lay_strs fun m hm => ?_)).shp (by decide)
          obtain ⟨p, hp, rfl⟩ := List.mem_map.mp hm
          exact gd.nm p (ordP_mem.mp (List.mem_filter.mp hp).1)
        refine ⟨by rw [List.length_map]; omega, ?_⟩
        have hfin : (PyData.list ((madeP ps o).map fun p => PyData.str p.nm)).eqv (.list ((((ordP ps).drop (j + 1)).filter (ancB ps o)).map fun p => PyData.str p.nm)) = true := by
          rw [← made_drop gd hoj, en]; exact eqv_strs _
        have hsh : Shp (.list ((((ordP ps).drop (j + 1)).filter (ancB ps o)).map fun p => PyData.str p.nm)) := by
          rw [← made_drop gd hoj]; exact shp
        rw [en (madeP ps o)] at hfin shp ⊢
        refine compI_nf (fun _ => true) (fun _ => .bool true) (fun x hx R S h => ?_) ?_
        · walk_at "rz"
          exact ⟨true, rfl, fun _ => trivial, h⟩
        · rw [filter_true]
          refine ⟨(madeP ps o).map fun _ => true, by rw [List.map_map]; rfl, ?_⟩
          rw [if_neg (by rw [Bool.not_eq_false]; simp)]
          have ecut : cutD (List.map PyData.str (List.map (fun x => x.nm) (ordP ps))) (some ((j : Int) + 1)) none = (((ordP ps).drop (j + 1)).map (·.nm)).map .str := by
            rw [cutD_drop (by omega) (by omega), ← List.map_drop, ← List.map_drop, show ((j : Int) + 1).toNat = j + 1 by omega]
          rw [ecut]
          refine ⟨by rw [List.length_map, List.length_map, List.length_drop]; omega, compI_nf (ancB ps o) (fun p => .str p.nm) (fun x hx R S h => ?_) ?_⟩
          · walk_at "rz"
            obtain ⟨as, h1, h2, h3⟩ := hk x (List.mem_of_mem_drop hx)
            refine ⟨_, e1, _, h1, _, .inl rfl, shp_str.mpr (gd.nm o ho), lay_ss fun z hz => ?_, ?_⟩
            · obtain ⟨a, ha, rfl⟩ := List.mem_map.mp hz
              exact gd.nm a ((h2 a).mp ha).mem.1
            · rw [in_strs]
              have : (as.map (·.nm)).contains o.nm = ancB ps o x := by
                cases e : ancB ps o x with
                | true => rw [List.contains_iff_mem]; exact List.mem_map.mpr ⟨o, (h2 o).mpr (ancB_iff.mp e), rfl⟩
                | false =>
                  rw [← Bool.not_eq_true, List.contains_iff_mem]
                  intro z
                  obtain ⟨a, ha, ea⟩ := List.mem_map.mp z
                  have hA := (h2 a).mp ha
                  rw [uniq_nm gd.nd hA.mem.1 ho ea] at hA
                  rw [ancB_iff.mpr hA] at e; cases e
              rw [this]
              exact h
          · refine ⟨shp, hsh, ?_⟩
            rw [if_neg (by rw [Bool.not_eq_false]; exact hfin)]
            exact ⟨_, rfl⟩
      · rintro δ ⟨o5, o6, rfl⟩
        walk_at "rz"
        exact q
end
end K10

open PySem L2

namespace K10
theorem cs__law_one_more_0 : CompScope (defScope s__law_one_more) ["_law_deeds", "_law_order_here", "_law_near", "_law_xs", "_law_name", "_law_told_here", "_law_last", "_law_more", "_law_one", "_law_due"] ["_law_deed"] 1 [] { kind := PySem.ScopeKind.function, names := [(PySem.Str.ofString ".0", PySem.NameKind.local), (PySem.Str.ofString "_law_deed", PySem.NameKind.local)], isGenerator := false, isCoroutine := false, more := [] : PySem.Scope } := ⟨rfl, by decide +kernel, by decide +kernel, by decide +kernel, rfl, by decide +kernel, by decide +kernel, by decide +kernel, rfl⟩
theorem cs__law_one_more_1 : CompScope (defScope s__law_one_more) ["_law_deeds", "_law_order_here", "_law_near", "_law_xs", "_law_name", "_law_told_here", "_law_last", "_law_more", "_law_one", "_law_due"] ["_law_maker", "_law_due"] 1 [9] { kind := PySem.ScopeKind.function, names := [ (PySem.Str.ofString ".0", PySem.NameKind.local), (PySem.Str.ofString "_law_maker", PySem.NameKind.local), (PySem.Str.ofString "_law_due", PySem.NameKind.free)], isGenerator := false, isCoroutine := false, more := [] : PySem.Scope } := ⟨rfl, by decide +kernel, by decide +kernel, by decide +kernel, rfl, by decide +kernel, by decide +kernel, by decide +kernel, rfl⟩

section
variable {P : Program} {w : World} {K : PySem.W.Frag} {mg : Str → Option Value} {base : Heap} {t : Adr}
theorem good_more {ps : List Pp} {q : Pp} (g : GoodP ps) (hl : ps.length ≤ 40) (h1 : q.nm ∉ ps.map (·.nm)) (h2 : PyData.strOk q.nm = true) (h3 : PyData.strOk q.kd = true) (h4 : (∀ m ∈ q.ms, PyData.strOk m = true) ∧ q.ms.length ≤ 50) : GoodP (ps ++ [q]) := by
  have one : ∀ {R : Pp → Prop}, (∀ p ∈ ps, R p) → R q → ∀ p ∈ ps ++ [q], R p := fun ha hb p hp => by
    rcases List.mem_append.mp hp with h | h
    · exact ha p h
    · rw [List.mem_singleton] at h; rw [h]; exact hb
  refine ⟨by rw [List.length_append]; simp; omega, ?_, one g.nm h2, one g.kd h3, one g.ms h4⟩
  rw [List.map_append, List.nodup_append]
  refine ⟨g.nd, by simp, fun a ha b hb e => ?_⟩
  rw [List.map_cons, List.map_nil, List.mem_singleton] at hb
  exact h1 (by rw [← hb, ← e]; exact ha)
theorem mk_made {ps : List Pp} {q c : Pp} {R : PyData → Prop} (g : GoodP (ps ++ [q])) (hc : c ∈ ps ++ [q]) (h : R (.tuple ((madeP (ps ++ [q]) c).map fun p => .str p.nm))) : F_made [.tuple (ps.map Pp.enc ++ [q.enc]), .str c.nm] R :=
  ⟨ps ++ [q], c, by rw [List.map_append]; rfl, g, hc, h⟩
theorem pick {ps : List Pp} {i : Int} (h0 : 0 ≤ i) (h1 : i < (ordP ps).length) : ∃ o ∈ ps, atI (((ordP ps).map (·.nm)).map PyData.str) i = some (.str o.nm) := by
  obtain ⟨j, rfl⟩ := Int.eq_ofNat_of_zero_le h0
  have hj : j < (ordP ps).length := by omega
  refine ⟨(ordP ps)[j], ordP_mem.mp (List.getElem_mem hj), atI_nat ?_⟩
  rw [List.getElem?_map, List.getElem?_map, List.getElem?_eq_getElem hj]; rfl
theorem pick_last {ps : List Pp} (h : ordP ps ≠ []) : ∃ o ∈ ps, atI (((ordP ps).map (·.nm)).map PyData.str) (-1) = some (.str o.nm) := by
  refine ⟨(ordP ps).getLast h, ordP_mem.mp (List.getLast_mem h), ?_⟩
  have e : ((ordP ps).map (·.nm)).map PyData.str = ((ordP ps).dropLast.map (·.nm)).map PyData.str ++ [.str ((ordP ps).getLast h).nm] := by
    rw [show [PyData.str ((ordP ps).getLast h).nm] = ([(ordP ps).getLast h].map (·.nm)).map PyData.str from rfl, ← List.map_append, ← List.map_append, List.dropLast_concat_getLast h]
  rw [e]
  exact atI_last _ _
theorem shp_names {l : List Pp} (h : ∀ p ∈ l, PyData.strOk p.nm = true) : Shp (.list ((l.map (·.nm)).map .str)) := (lay_lst (n := 1) (lay_strs fun m hm => by
  obtain ⟨p, hp, rfl⟩ := List.mem_map.mp hm
  exact h p hp)).shp (by decide)
theorem shp_tup {ss : List Str} (h : ∀ z ∈ ss, PyData.strOk z = true) : Shp (.tuple (ss.map .str)) := (lay_tup (n := 1) (lay_strs h)).shp (by decide)
theorem eqv_tup (ss : List Str) : (PyData.tuple (ss.map .str)).eqv (.tuple (ss.map .str)) = true := by
  rw [PyData.eqv]; exact eqvAll_strs ss
theorem ok_k : PyData.strOk (Str.ofString "k") = true := by decide +kernel
theorem made_ok {ps : List Pp} (g : GoodP ps) {c : Pp} : ∀ z ∈ (madeP ps c).map (·.nm), PyData.strOk z = true := fun z hz => by
  obtain ⟨p, hp, rfl⟩ := List.mem_map.mp hz
  exact g.nm p (ordP_mem.mp (List.mem_filter.mp hp).1)
theorem en (l : List Pp) : (l.map fun p => PyData.str p.nm) = (l.map (·.nm)).map .str := by rw [List.map_map]; rfl
theorem made_len {ps : List Pp} (g : GoodP ps) {c : Pp} : (madeP ps c).length ≤ 41 := by
  unfold madeP
  have := List.length_filter_le (ancB ps c) (ordP ps)
  rw [ordP_len] at this
  have := g.ln
  omega
theorem more_fin {ps l : List Pp} {q o : Pp} {S T : Prop} (gd : GoodP (ps ++ [q])) (ho : o ∈ ps) (h : madeP (ps ++ [q]) o = l) (hT : T) :
    F_made [.tuple (ps.map Pp.enc ++ [q.enc]), .str o.nm] fun x => SeqAt.shaped x = true ∧ SeqAt.shaped (.tuple (l.map fun p => PyData.str p.nm)) = true ∧ if x.eqv (.tuple (l.map fun p => PyData.str p.nm)) = false then S else T := by
  refine mk_made gd (List.mem_append_left _ ho) ?_
  subst h
  rw [en]
  refine ⟨shp_tup (made_ok gd), shp_tup (made_ok gd), ?_⟩
  rw [if_neg (by rw [Bool.not_eq_false]; exact eqv_tup _)]
  exact hT
def F_more : List PyData → (PyData → Prop) → Prop := fun ds Q => ∃ (ps : List Pp) (x0 x1 x2 x3 : Int) (nm : Str), ds = [.tuple (ps.map Pp.enc), .list (((ordP ps).map (·.nm)).map .str), nearD ps, .list [.int x0, .int x1, .int x2, .int x3], .str nm] ∧ GoodP ps ∧ ps.length ≤ 40 ∧ nm ∉ ps.map (·.nm) ∧ PyData.strOk nm = true ∧ Q (.bool true)
theorem ok_more (T : Txt K mg t) : FnOk P w K mg base CX0 8 t.a__law_one_more t.d__law_one_more ["_law_deeds", "_law_order_here", "_law_near", "_law_xs", "_law_name"] (spD K F_more) := by
  have G_made_of := ok_made (P := P) (w := w) (base := base) T
  refine T.F__law_one_more.okD sc__law_one_more (fun ds Q h => ?_) (fun cdv A outer s H O ds Q E hr h => ?_)
  · obtain ⟨ps, x0, x1, x2, x3, nm, rfl, _⟩ := h; rfl
  · obtain ⟨ps, x0, x1, x2, x3, nm, rfl, gd, pl, hnm, sn, q⟩ := h
    refine' ⟨_, ?body, ?read⟩
    case body =>
      refine' dss_cons ?s1 ?r1
      case s1 =>
        refine' ds_if ?c2 ?a2 ?b2
        case c2 => exact (dt_cmp (op_eqX hr.units) od_eq (df (dv 1)) (df (fe (fe_lst da_nil))) (nomark _))
        case a2 =>
          refine' dss_one ?s3
          case s3 =>
            refine' ds_ret ?e4
            case e4 =>
              exact (de_cmp (op_eqX hr.units) od_eq (df (PE.imp (pe_call G_made_of (hr.mono (by decide)) rfl T.m_made_of T.F_made_of.kp T.b_made_of .nil pass0 (da_cons (de_op op_catX od_catX (df (dv 0)) (df (de_tup (da_cons (de_tup (da_cons de_str (da_cons (de_op op_mod od_intC (df (de_ix ix_list od_ixL (df (dv 3)) (df de_int))) (df de_int)) (da_cons (dv 4) (da_cons de_str (da_cons (de_tup (da_cons (dv 4) da_nil)) da_nil)))))) da_nil)))) (da_cons (dv 4) da_nil))) dcall)) (df (de_tup da_nil)) (nomark _))
        case b2 =>
          exact dss_nil
      case r1 =>
        refine' dss_cons ?s6 ?r6
        case s6 =>
          refine' ds_set (i := 5) sc__law_one_more.nd rfl (by first | exact Or.inl rfl | exact Or.inr rfl) ?e7 (hs := swaps_Call)
          case e7 =>
            exact (PE.imp (pe_callTy call_tuple_of rfl T.n_tuple bt_tuple (db_cons (df (fe (fe_sortSet rfl rfl T.n_sorted PyProof.Rows.boot_sorted rfl T.n_set (db_cons (df (fe (fe_lst (da_cons (de_ix ix_list od_ixL (df (dv 1)) (df (de_op op_mod od_intC (df (de_ix ix_list od_ixL (df (dv 3)) (df de_int))) (df (PE.imp (pe_callB call_len_seq rfl T.n_len PySem.boot_len (db_cons (df (dv 1)) db_nil)) (dcb cd_len)))))) (da_cons (de_ix ix_list od_ixL (df (dv 1)) (df (de_op op_mod od_intC (df (de_ix ix_list od_ixL (df (dv 3)) (df de_int))) (df (PE.imp (pe_callB call_len_seq rfl T.n_len PySem.boot_len (db_cons (df (dv 1)) db_nil)) (dcb cd_len)))))) da_nil))))) db_nil)))) db_nil)) (dcb cd_tupOf))
        case r6 =>
          refine' dss_cons ?s9 ?r9
          case s9 =>
            refine' ds_set (i := 6) sc__law_one_more.nd rfl (by first | exact Or.inl rfl | exact Or.inr rfl) ?e10 (hs := swaps_Call)
            case e10 =>
              exact (PE.imp (pe_callB (call_maxL rfl) rfl T.n_max PyProof.Rows.boot_max (db_cons (df (fe (fe_compTI rfl cs__law_one_more_0 (df (dv 0)) gd_name keepName (by decide) (fun _ _ _ _ => (pg_name (i := 0) cs__law_one_more_0.nd rfl (by first | exact Or.inl rfl | exact Or.inr rfl))) (fun _ _ _ _ => pf_nilD) (fun _ _ _ _ => (de_ix ix_tup od_ixT (df (dv 0)) (df de_int)))))) db_nil)) (dcb cd_maxL))
          case r9 =>
            refine' dss_cons ?s12 ?r12
            case s12 =>
              refine' ds_set (i := 7) sc__law_one_more.nd rfl (by first | exact Or.inl rfl | exact Or.inr rfl) ?e13 (hs := swaps_BinOp)
              case e13 =>
                refine' de_op op_catX od_catX (df ?a14) (df ?b14)
                case a14 =>
                  exact (dv 0)
                case b14 =>
                  refine' de_tup ?t16
                  case t16 =>
                    refine' da_cons ?u17 ?w17
                    case u17 =>
                      refine' de_tup ?t18
                      case t18 =>
                        refine' da_cons ?u19 ?w19
                        case u19 =>
                          exact de_str
                        case w19 =>
                          refine' da_cons ?u21 ?w21
                          case u21 =>
                            exact (de_op op_add od_int (df (dv 6)) (df de_int))
                          case w21 =>
                            refine' da_cons ?u23 ?w23
                            case u23 =>
                              exact (dv 4)
                            case w23 =>
                              refine' da_cons ?u25 ?w25
                              case u25 =>
                                exact de_str
                              case w25 =>
                                refine' da_cons ?u27 ?w27
                                case u27 =>
                                  exact (dv 5)
                                case w27 =>
                                  exact da_nil
                    case w17 =>
                      exact da_nil
            case r12 =>
              refine' dss_cons ?s31 ?r31
              case s31 =>
                refine' ds_forI PassesOwn.never rfl (fe (fe_lst (da_cons (de_ix ix_list od_ixL (df (dv 1)) (df de_int)) (da_cons (de_ix ix_list od_ixL (df (dv 1)) (df (de_op op_mod od_intC (df (de_ix ix_list od_ixL (df (dv 3)) (df de_int))) (df (PE.imp (pe_callB call_len_seq rfl T.n_len PySem.boot_len (db_cons (df (dv 1)) db_nil)) (dcb cd_len)))))) (da_cons (de_ix ix_list od_ixL (df (dv 1)) (df (de_neg de_int))) da_nil))))) ?a32 gd_name ?b32
                case a32 => exact (pg_name (i := 8) sc__law_one_more.nd rfl (by first | exact Or.inl rfl | exact Or.inr rfl))
                case b32 =>
                  refine' dss_cons ?s33 ?r33
                  case s33 =>
                    exact (ds_set (i := 9) sc__law_one_more.nd rfl (by first | exact Or.inl rfl | exact Or.inr rfl) (PE.imp (pe_call G_made_of (hr.mono (by decide)) rfl T.m_made_of T.F_made_of.kp T.b_made_of .nil pass0 (da_cons (dv 0) (da_cons (dv 8) da_nil))) dcall))
                  case r33 =>
                    refine' dss_cons ?s35 ?r35
                    case s35 =>
                      refine' ds_if ?c36 ?a36 ?b36
                      case c36 => exact (PW.pt (dw_or (dt_cmp (op_inX hr) od_inX (df (dv 8)) (df (dv 5)) rfl) (dw_or1 (dt_val (PE.imp (pe_callB (call_any rfl) rfl T.n_any bt_any (db_cons (df (fe (fe_compTI rfl cs__law_one_more_1 (df (dv 5)) gd_name keepName (by decide) (fun _ _ _ _ => (pg_name (i := 0) cs__law_one_more_1.nd rfl (by first | exact Or.inl rfl | exact Or.inr rfl))) (fun _ _ _ _ => pf_nilD) (fun _ _ _ _ => (de_cmp (op_inX hr) od_inX (df (dv 0)) (df (dv 1)) rfl))))) db_nil)) (dcb cd_any))))))
                      case a36 =>
                        refine' dss_one ?s37
                        case s37 =>
                          exact (ds_set (i := 9) sc__law_one_more.nd rfl (by first | exact Or.inl rfl | exact Or.inr rfl) (de_op op_catX od_catX (df (dv 9)) (df (de_tup (da_cons (dv 4) da_nil)))))
                      case b36 =>
                        exact dss_nil
                    case r35 =>
                      refine' dss_one ?s39
                      case s39 =>
                        refine' ds_if ?c40 ?a40 ?b40
                        case c40 => exact (dt_cmp (op_neX hr.units) od_ne (df (PE.imp (pe_call G_made_of (hr.mono (by decide)) rfl T.m_made_of T.F_made_of.kp T.b_made_of .nil pass0 (da_cons (dv 7) (da_cons (dv 8) da_nil))) dcall)) (df (dv 9)) (nomark _))
                        case a40 =>
                          refine' dss_one ?s41
                          case s41 =>
                            exact (ds_ret de_bl)
                        case b40 =>
                          exact dss_nil
              case r31 =>
                refine' dss_one ?s43
                case s43 =>
                  exact (ds_ret (de_cmp (op_eqX hr.units) od_eq (df (PE.imp (pe_call G_made_of (hr.mono (by decide)) rfl T.m_made_of T.F_made_of.kp T.b_made_of .nil pass0 (da_cons (dv 7) (da_cons (dv 4) da_nil))) dcall)) (df (de_tup da_nil)) (nomark _)))
    case read =>
    clear hr T G_made_of
    have ol := ordP_len (ps := ps)
    walk_at "rz"
    have lm : (List.map PyData.str (List.map (fun x : Pp => x.nm) (ordP ps))).length = (ordP ps).length := by rw [List.length_map, List.length_map]
    refine ⟨shp_names fun p hp => gd.nm p (ordP_mem.mp hp), by decide +kernel, ?_⟩
    by_cases he : ordP ps = []
    · have hp : ps = [] := by rw [he] at ol; exact List.length_eq_zero_iff.mp ol.symm
      subst hp
      have g1 : GoodP ([] ++ [(⟨x0 % 100000, nm, Str.ofString "k", [nm]⟩ : Pp)]) := good_more gd (by simp) (by simp) sn ok_k ⟨by simpa using sn, by simp⟩
      rw [if_pos (by rw [he]; rfl)]
      refine ⟨by simp, mk_made (ps := []) (q := ⟨x0 % 100000, nm, Str.ofString "k", [nm]⟩) (c := ⟨x0 % 100000, nm, Str.ofString "k", [nm]⟩) g1 (by simp) ?_⟩
      rw [made_q g1 (by simp)]
      exact ⟨by decide +kernel, by decide +kernel, q⟩
    · rw [if_neg (by
        cases h : ordP ps with
        | nil => exact absurd h he
        | cons a l => simp [PyData.eqv, PyData.eqvAll])]
      have on : 0 < (ordP ps).length := List.length_pos_iff.mpr he
      rw [lm]
      have em : ∀ x : Int, 0 ≤ x % ((ordP ps).length : Int) ∧ x % ((ordP ps).length : Int) < (ordP ps).length := fun x => ⟨Int.emod_nonneg _ (by omega), Int.emod_lt_of_pos _ (by omega)⟩
      obtain ⟨o1, ho1, e1⟩ := pick (em x1).1 (em x1).2
      obtain ⟨o2, ho2, e2⟩ := pick (em x2).1 (em x2).2
      obtain ⟨p0, hp0, f0⟩ := pick (ps := ps) (i := 0) (by omega) (by omega)
      obtain ⟨p1, hp1, f1⟩ := pick (em x3).1 (em x3).2
      obtain ⟨p2, hp2, f2⟩ := pick_last he
      refine ⟨by omega, _, e1, by omega, _, e2, [o1.nm, o2.nm], rfl, by simp, by rw [List.length_map]; omega, compI_pf (fun _ => true) (fun p => .int p.d) (fun x hx R S h => ?_) ?_⟩
      · simp only [Pp.enc]
        walk_at "rz"
        rw [if_pos rfl] at h; exact h
      · rw [filter_true]
        refine ⟨ps.map (·.d), by rw [List.map_map]; rfl, fun z => by rw [List.map_eq_nil_iff] at z; exact he (by rw [z]; rfl), fun M hM hmax => ⟨by rw [List.length_map]; omega, _, f0, by omega, _, f1, _, f2, ?_⟩⟩
        generalize htold : sortS (List.foldl addS [] [o1.nm, o2.nm]) = told
        have tm : ∀ z, z ∈ told ↔ z = o1.nm ∨ z = o2.nm := fun z => by
          rw [← htold, (sortS_perm _).mem_iff, foldS_mem]
          simp
        have tl : told.length ≤ 2 := by
          rw [← htold, (sortS_perm _).length_eq]
          exact foldS_len [o1.nm, o2.nm] []
        have tok : ∀ z ∈ told, PyData.strOk z = true := fun z hz => by
          rcases (tm z).mp hz with e | e <;> rw [e]
          · exact gd.nm o1 ho1
          · exact gd.nm o2 ho2
        clear htold
        have gq : GoodP (ps ++ [(⟨M + 1, nm, Str.ofString "k", told⟩ : Pp)]) := good_more gd pl hnm sn ok_k ⟨tok, by show told.length ≤ 50; omega⟩
        have hlt : ∀ p ∈ ps, p.lt ⟨M + 1, nm, Str.ofString "k", told⟩ := fun p hp => by
          have := hmax p.d (List.mem_map.mpr ⟨p, hp, rfl⟩)
          unfold Pp.lt ltP Pp.key
          rw [decide_eq_true (by simp only; omega)]; rfl
        refine ⟨fun i δ => ∃ o8 o9, δ = [some (Sl.v (PyData.tuple (List.map Pp.enc ps))), some (Sl.v (PyData.list (List.map PyData.str (List.map (fun x => x.nm) (ordP ps))))), some (Sl.v (nearD ps)), some (Sl.v (PyData.list [PyData.int x0, PyData.int x1, PyData.int x2, PyData.int x3])), some (Sl.v (PyData.str nm)), some (Sl.v (PyData.tuple (List.map PyData.str told))), some (Sl.v (PyData.int M)), some (Sl.v (PyData.tuple (List.map Pp.enc ps ++ [(⟨M + 1, nm, Str.ofString "k", told⟩ : Pp).enc]))), o8, o9], ⟨_, _, rfl⟩, ?_, ?_⟩
        · rintro i z δ hz ⟨o8, o9, rfl⟩
          have hz2 : ∃ o ∈ ps, z = .str o.nm := by
            have := List.mem_of_getElem? hz
            simp only [List.mem_cons, List.not_mem_nil, or_false] at this
            rcases this with h | h | h
            · exact ⟨p0, hp0, h⟩
            · exact ⟨p1, hp1, h⟩
            · exact ⟨p2, hp2, h⟩
          obtain ⟨o, ho, rfl⟩ := hz2
          walk_at "rz"
          refine ⟨ps, o, rfl, gd, ho, shp_str.mpr (gd.nm o ho), lay_ss tok, ?_⟩
          rw [in_strs]
          walk_at "rz"
          have ml := made_last gq hlt (a := o)
          have e3 : List.map (fun p => PyData.str p.nm) (madeP ps o) ++ [PyData.str nm] = (madeP ps o ++ [(⟨M + 1, nm, Str.ofString "k", told⟩ : Pp)]).map (fun p => PyData.str p.nm) := by rw [List.map_append]; rfl
          rw [e3]
          have dl : (List.map (fun p => PyData.str p.nm) (madeP ps o)).length ≤ 16777215 := by rw [List.length_map]; have := made_len gd (c := o); omega
          have aq := anc_q hlt (a := o)
          by_cases c1 : told.contains o.nm = true
          · rw [if_pos c1]
            rw [if_pos (ancB_iff.mpr (aq.mpr ⟨o, ho, List.contains_iff_mem.mp c1, .inl rfl⟩))] at ml
            exact ⟨dl, more_fin gq ho ml ⟨_, rfl⟩⟩
          · rw [if_neg c1]
            refine ⟨by rw [List.length_map]; omega, compI_sf (fun _ => true) (fun z => .bool (((madeP ps o).map (·.nm)).contains z)) (fun x hx R S h => ?_) ?_⟩
            · walk_at "rz"
              rw [en]
              refine ⟨shp_str.mpr (tok x hx), lay_ss (made_ok gd), ?_⟩
              rw [in_strs]
              rw [if_pos rfl] at h
              exact h
            · rw [filter_true]
              refine ⟨told.map fun z => ((madeP ps o).map (·.nm)).contains z, by rw [List.map_map]; rfl, ?_⟩
              by_cases c2 : ((told.map fun z => ((madeP ps o).map (·.nm)).contains z).any id) = true
              · rw [if_pos c2]
                rw [List.any_map, List.any_eq_true] at c2
                obtain ⟨z, hz1, hz2⟩ := c2
                obtain ⟨b, hb, eb⟩ := List.mem_map.mp (List.contains_iff_mem.mp hz2)
                obtain ⟨hb1, hb2⟩ := List.mem_filter.mp hb
                rw [if_pos (ancB_iff.mpr (aq.mpr ⟨b, ordP_mem.mp hb1, by rw [eb]; exact hz1, .inr (ancB_iff.mp hb2)⟩))] at ml
                exact ⟨dl, more_fin gq ho ml ⟨_, rfl⟩⟩
              · rw [if_neg c2]
                rw [if_neg, List.append_nil] at ml
                · exact more_fin gq ho ml ⟨_, rfl⟩
                · intro z
                  obtain ⟨b, hb, hm, e | e⟩ := aq.mp (ancB_iff.mp z)
                  · rw [e] at hm
                    exact c1 (List.contains_iff_mem.mpr hm)
                  · refine c2 ?_
                    rw [List.any_map, List.any_eq_true]
                    exact ⟨b.nm, hm, List.contains_iff_mem.mpr (List.mem_map.mpr ⟨b, List.mem_filter.mpr ⟨ordP_mem.mpr hb, ancB_iff.mpr e⟩, rfl⟩)⟩
        · rintro δ ⟨o8, o9, rfl⟩
          walk_at "rz"
          refine mk_made (c := ⟨M + 1, nm, Str.ofString "k", told⟩) gq (by simp) ?_
          rw [made_q gq hlt]
          exact ⟨by decide +kernel, by decide +kernel, q⟩
end
end K10

open PySem L2

namespace K10
theorem cs_law_0 : CompScope (defScope s_law) ["_law_script", "_law_names_here", "_law_deeds", "_law_order_here", "_law_near", "_law_name"] ["_law_deed"] 1 [] { kind := PySem.ScopeKind.function, names := [(PySem.Str.ofString ".0", PySem.NameKind.local), (PySem.Str.ofString "_law_deed", PySem.NameKind.local)], isGenerator := false, isCoroutine := false, more := [] : PySem.Scope } := ⟨rfl, by decide +kernel, by decide +kernel, by decide +kernel, rfl, by decide +kernel, by decide +kernel, by decide +kernel, rfl⟩

section
variable {P : Program} {w : World} {K : PySem.W.Frag} {mg : Str → Option Value} {base : Heap} {t : Adr}
def rowK (ps : List Pp) (o : Pp) : Key × PyData := (.inr o.nm, .list (((mksP ps o).map (·.nm)).map .str))
theorem putD_new {ps l : List Pp} {o : Pp} (h : ∀ x ∈ l, x.nm ≠ o.nm) : putD (l.map (rowK ps)) (.inr o.nm) (rowK ps o).2 = (l ++ [o]).map (rowK ps) := by
  unfold putD
  rw [if_neg, List.map_append]
  · rfl
  · intro z
    obtain ⟨p, hp, e⟩ := List.any_eq_true.mp z
    obtain ⟨x, hx, rfl⟩ := List.mem_map.mp hp
    have : (rowK ps x).1 = .inr o.nm := by simpa using e
    exact h x hx (Sum.inr.inj this)
theorem rows_keys {ps l : List Pp} : (l.map (rowK ps)).map (·.1) = (l.map (·.nm)).map Sum.inr := by rw [List.map_map, List.map_map]; rfl
theorem rows_near {ps : List Pp} : dicD ((ordP ps).map (·.nm)) (((ordP ps).map (rowK ps)).map (·.2)) = nearD ps := by
  unfold nearD; rw [List.map_map]; rfl
theorem lay_enc {ps : List Pp} (g : GoodP ps) {p : Pp} (hp : p ∈ ps) : Lay 3 p.enc := by
  refine lay_tup fun y hy => ?_
  simp only [List.mem_cons, List.not_mem_nil, or_false] at hy
  rcases hy with rfl | rfl | rfl | rfl | rfl
  · exact (lay_str (by decide +kernel)).mono (by decide)
  · exact lay_int.mono (by decide)
  · exact (lay_str (g.nm p hp)).mono (by decide)
  · exact (lay_str (g.kd p hp)).mono (by decide)
  · exact lay_tup (lay_strs (g.ms p hp).1)
def F_law : List PyData → (PyData → Prop) → Prop := fun ds Q => ∃ ns : List Int, ds = [scrD (ns.map .int)] ∧ ns.length ≤ 63 ∧ (∀ z ∈ ns, Builtin.Int.intBits z ≤ 1048576) ∧ Q (.bool true)
def sp_law (K : PySem.W.Frag) : Sp := spD K F_law
theorem start_law {K : PySem.W.Frag} {H : Hp} {a : Addr} {ns : List Int} (hl : ns.length ≤ 63) (hb : ∀ z ∈ ns, Builtin.Int.intBits z ≤ 1048576) (hS : SqL K H a (ns.map V.int)) : sp_law K [.ref a] H (fun v _ => v = .bl true) fun _ _ _ => False :=
  ⟨fun _ => False, [scrD (ns.map .int)], fun d => d = .bool true, fun _ z => z.elim, .cons (.scr (by
    rcases hS with h | h
    · exact .inl ⟨h, fun z => z⟩
    · exact .inr (.inr h)) (Dts.ints ns)) .nil, ⟨ns, rfl, hl, hb, rfl⟩, fun d v H' e _ r => by subst e; cases r; rfl⟩
theorem ok_law (T : Txt K mg t) : FnOk P w K mg base CX0 9 t.a_law t.d_law ["_law_script"] (sp_law K) := by
  have G__law_drawn := ok_drawn (P := P) (w := w) (base := base) T
  have G__law_order := ok_order (P := P) (w := w) (base := base) T
  have G__law_makers := ok_mks (P := P) (w := w) (base := base) T
  have G__law_right := ok_right (P := P) (w := w) (base := base) T
  have G__law_one_more := ok_more (P := P) (w := w) (base := base) T
  have G_made_of := ok_made (P := P) (w := w) (base := base) T
  have G__law_cell := ok_cell (P := P) (w := w) (base := base) T
  have G__law_numbers := ok_numbers (P := P) (w := w) (base := base) T
  refine T.F_law.okD sc_law (fun ds Q h => ?_) (fun cdv A outer s H O ds Q E hr h => ?_)
  · obtain ⟨ns, rfl, _⟩ := h; rfl
  · obtain ⟨ns, rfl, nl, nb, q⟩ := h
    refine' ⟨_, ?body, ?read⟩
    case body =>
      refine' dss_cons ?s1 ?r1
      case s1 =>
        exact (ds_asg (PE.imp (pe_call G__law_drawn (hr.mono (by decide)) rfl T.m__law_drawn T.F__law_drawn.kp T.b__law_drawn .nil pass0 (da_cons (dv 0) da_nil)) dcall) (pg_tup (n := 2) rfl (pgs_cons (pg_name (i := 1) sc_law.nd rfl (by first | exact Or.inl rfl | exact Or.inr rfl)) (pgs_cons (pg_name (i := 2) sc_law.nd rfl (by first | exact Or.inl rfl | exact Or.inr rfl)) pgs_nil))) (gd_tup (gds_cons gd_name (gds_cons gd_name gds_nil))))
      case r1 =>
        refine' dss_cons ?s3 ?r3
        case s3 =>
          exact (ds_set (i := 3) sc_law.nd rfl (by first | exact Or.inl rfl | exact Or.inr rfl) (PE.imp (pe_call G__law_order (hr.mono (by decide)) rfl T.m__law_order T.F__law_order.kp T.b__law_order .nil pass0 (da_cons (dv 2) da_nil)) dcall))
        case r3 =>
          refine' dss_cons ?s5 ?r5
          case s5 =>
            exact (ds_newK (i := 4) sc_law.nd rfl (by first | exact Or.inl rfl | exact Or.inr rfl) ke_emp)
          case r5 =>
            refine' dss_cons ?s7 ?r7
            case s7 =>
              refine' ds_forI PassesOwn.never rfl (dv 3) ?a8 gd_name ?b8
              case a8 => exact (pg_name (i := 5) sc_law.nd rfl (by first | exact Or.inl rfl | exact Or.inr rfl))
              case b8 =>
                refine' dss_one ?s9
                case s9 =>
                  exact (ds_putK (i := 4) hr.units (pv 4) (dv 5) (PE.imp (pe_call G__law_makers (hr.mono (by decide)) rfl T.m__law_makers T.F__law_makers.kp T.b__law_makers .nil pass0 (da_cons (dv 2) (da_cons (dv 5) da_nil))) dcall))
            case r7 =>
              refine' dss_cons ?s11 ?r11
              case s11 =>
                refine' ds_frzK 4 ?z12
                case z12 =>
                  refine' ds_if ?c13 ?a13 ?b13
                  case c13 => exact (dt_not (dt_val (PE.imp (pe_call G__law_right (hr.mono (by decide)) rfl T.m__law_right T.F__law_right.kp T.b__law_right .nil pass0 (da_cons (dv 2) (da_cons (dv 3) (da_cons (dv 4) da_nil)))) dcall)))
                  case a13 =>
                    refine' dss_one ?s14
                    case s14 =>
                      exact (ds_ret de_bl)
                  case b13 =>
                    exact dss_nil
              case r11 =>
                refine' dss_cons ?s16 ?r16
                case s16 =>
                  refine' ds_forI PassesOwn.never rfl (fe (fe_cat (df (fe (fe_slice (df (dv 3)) do_none (do_some de_int)))) (df (fe (fe_slice (df (dv 3)) (do_some (de_neg de_int)) do_none))))) ?a17 gd_name ?b17
                  case a17 => exact (pg_name (i := 5) sc_law.nd rfl (by first | exact Or.inl rfl | exact Or.inr rfl))
                  case b17 =>
                    refine' dss_one ?s18
                    case s18 =>
                      refine' ds_if ?c19 ?a19 ?b19
                      case c19 => exact (dt_cmp (op_neX hr.units) od_ne (df (PE.imp (pe_call G_made_of (hr.mono (by decide)) rfl T.m_made_of T.F_made_of.kp T.b_made_of .nil pass0 (da_cons (de_revT (df (dv 2))) (da_cons (dv 5) da_nil))) dcall)) (df (PE.imp (pe_call G_made_of (hr.mono (by decide)) rfl T.m_made_of T.F_made_of.kp T.b_made_of .nil pass0 (da_cons (dv 2) (da_cons (dv 5) da_nil))) dcall)) (nomark _))
                      case a19 =>
                        refine' dss_one ?s20
                        case s20 =>
                          exact (ds_ret de_bl)
                      case b19 =>
                        exact dss_nil
                case r16 =>
                  refine' dss_cons ?s22 ?r22
                  case s22 =>
                    refine' ds_if ?c23 ?a23 ?b23
                    case c23 => exact (PW.pt (dw_or (dt_cmp op_gt od_bl (df (PE.imp (pe_callB call_len_seq rfl T.n_len PySem.boot_len (db_cons (df (dv 2)) db_nil)) (dcb cd_len))) (df de_int) (nomark _)) (dw_or1 (PW.pt (dw_and (dt_cmp (op_neX hr.units) od_ne (df (dv 2)) (df (de_tup da_nil)) (nomark _)) (dw_and1 (dt_cmp op_gt od_bl (df (PE.imp (pe_callB (call_maxL rfl) rfl T.n_max PyProof.Rows.boot_max (db_cons (df (fe (fe_compTI rfl cs_law_0 (df (dv 2)) gd_name keepName (by decide) (fun _ _ _ _ => (pg_name (i := 0) cs_law_0.nd rfl (by first | exact Or.inl rfl | exact Or.inr rfl))) (fun _ _ _ _ => pf_nilD) (fun _ _ _ _ => (de_ix ix_tup od_ixT (df (dv 0)) (df de_int)))))) db_nil)) (dcb cd_maxL))) (df de_int) (nomark _))))))))
                    case a23 =>
                      refine' dss_one ?s24
                      case s24 =>
                        exact (ds_ret de_bl)
                    case b23 =>
                      exact dss_nil
                  case r22 =>
                    refine' dss_one ?s26
                    case s26 =>
                      refine' ds_ret ?e27
                      case e27 =>
                        exact (PE.imp (pe_call G__law_one_more (hr.mono (by decide)) rfl T.m__law_one_more T.F__law_one_more.kp T.b__law_one_more .nil pass0 (da_cons (dv 2) (da_cons (dv 3) (da_cons (dv 4) (da_cons (PE.imp (pe_call G__law_numbers (hr.mono (by decide)) rfl T.m__law_numbers T.F__law_numbers.kp T.b__law_numbers .nil pass0 (da_cons (PE.imp (pe_call G__law_cell (hr.mono (by decide)) rfl T.m__law_cell T.F__law_cell.kp T.b__law_cell .nil pass0 (da_cons (dv 0) (da_cons de_int da_nil))) dcall) (da_cons de_int da_nil))) dcall) (da_cons (de_ix ix_list od_ixL (df (dv 1)) (df (de_neg de_int))) da_nil)))))) dcall)
    case read =>
    clear hr T G__law_drawn G__law_order G__law_makers G__law_right G__law_one_more G_made_of G__law_cell G__law_numbers
    walk_at "rz"
    refine ⟨ns, rfl, fun pre nm ps gd pl hnm sn => ?_⟩
    walk_at "rz"
    refine ⟨ps, rfl, gd, ?_⟩
    walk_at "rz"
    have ol := ordP_len (ps := ps)
    refine ⟨fun i δ => ∃ o5, δ = [some (Sl.v (scrD (List.map PyData.int ns))), some (Sl.v (PyData.list (List.map PyData.str (pre ++ [nm])))), some (Sl.v (PyData.tuple (List.map Pp.enc ps))), some (Sl.v (PyData.list (List.map PyData.str (List.map (fun x => x.nm) (ordP ps))))), some (Sl.k (((ordP ps).take i).map (rowK ps))), o5], ⟨_, rfl⟩, ?_, ?_⟩
    · rintro i z δ hz ⟨o5, rfl⟩
      rw [List.getElem?_map, List.getElem?_map] at hz
      cases hz' : (ordP ps)[i]? with
      | none => rw [hz'] at hz; cases hz
      | some o =>
        rw [hz'] at hz; cases hz
        have ho := ordP_mem.mp (List.mem_of_getElem? hz')
        have hi : i < 41 := by have := (List.getElem?_eq_some_iff.mp hz').1; omega
        walk_at "rz"
        refine ⟨ps, o, rfl, gd, ho, by rw [List.length_map, List.length_take]; omega, ?_, _, rfl⟩
        rw [show PyData.list (((mksP ps o).map (·.nm)).map .str) = (rowK ps o).2 from rfl, putD_new, List.take_succ, hz']
        · rfl
        · intro x hx e
          have := uniq_nm gd.nd (ordP_mem.mp (List.mem_of_mem_take hx)) ho e
          rw [this] at hx
          exact Pp.lt_irr o (take_ahead (ordP_pw gd.nd) hz' hx)
    · rintro δ ⟨o5, rfl⟩
      rw [List.length_map, List.length_map, List.take_of_length_le (Nat.le_refl _)]
      walk_at "rz"
      refine ⟨_, rows_keys, ?_⟩
      rw [rows_near]
      refine ⟨ps, rfl, gd, ?_⟩
      walk_at "rz"
      obtain ⟨s1, c1, h1, l1⟩ := cutD_strs (ns := (ordP ps).map (·.nm)) (lo := none) (hi := some 2)
      obtain ⟨s2, c2, h2, l2⟩ := cutD_strs (ns := (ordP ps).map (·.nm)) (lo := some (-1)) (hi := none)
      rw [c1, c2]
      rw [List.length_map] at l1 l2
      refine ⟨by rw [List.length_map, List.length_map]; omega, ?_⟩
      refine ⟨fun i δ => ∃ o5, δ = [some (Sl.v (scrD (List.map PyData.int ns))), some (Sl.v (PyData.list (List.map PyData.str (pre ++ [nm])))), some (Sl.v (PyData.tuple (List.map Pp.enc ps))), some (Sl.v (PyData.list (List.map PyData.str (List.map (fun x => x.nm) (ordP ps))))), some (Sl.v (nearD ps)), o5], ⟨_, rfl⟩, ?_, ?_⟩
      · rintro i z δ hz ⟨o5, rfl⟩
        have hz2 : ∃ o ∈ ps, z = .str o.nm := by
          have := List.mem_of_getElem? hz
          rw [← List.map_append] at this
          obtain ⟨y, hy, rfl⟩ := List.mem_map.mp this
          have hy2 : y ∈ (ordP ps).map (·.nm) := by
            rcases List.mem_append.mp hy with h | h
            · exact h1 y h
            · exact h2 y h
          obtain ⟨o, ho, rfl⟩ := List.mem_map.mp hy2
          exact ⟨o, ordP_mem.mp ho, rfl⟩
        obtain ⟨o, ho, rfl⟩ := hz2
        walk_at "rz"
        have hp : ps.reverse.Perm ps := List.reverse_perm ps
        refine ⟨ps.reverse, o, by rw [List.map_reverse], gd.perm hp, hp.mem_iff.mpr ho, ps, o, rfl, gd, ho, ?_⟩
        rw [madeP_perm gd hp, en]
        refine ⟨shp_tup (made_ok gd), shp_tup (made_ok gd), ?_⟩
        rw [if_neg (by rw [Bool.not_eq_false]; exact eqv_tup _)]
        exact ⟨_, rfl⟩
      · rintro δ ⟨o5, rfl⟩
        walk_at "rz"
        have fin : F_cell [scrD (List.map PyData.int ns), PyData.int 41] fun d => F_numbers [d, PyData.int 4] fun d => ∃ d_1, atI (List.map PyData.str (pre ++ [nm])) (-1) = some d_1 ∧ F_more [PyData.tuple (List.map Pp.enc ps), PyData.list (List.map PyData.str (List.map (fun x => x.nm) (ordP ps))), nearD ps, d, d_1] Q := by
          refine cell_iff.mpr ⟨by omega, by omega, fun c => numbers_iff.mpr ⟨by omega, by omega, fun ms ml _ => ?_⟩⟩
          obtain ⟨a0, a1, a2, a3, rfl⟩ : ∃ a0 a1 a2 a3, ms = [a0, a1, a2, a3] := by
            match ms, (show ms.length = 4 by omega) with
            | [a0, a1, a2, a3], _ => exact ⟨_, _, _, _, rfl⟩
          refine ⟨.str nm, by rw [List.map_append]; exact atI_last _ _, ps, a0, a1, a2, a3, nm, rfl, gd, pl, hnm, sn, q⟩
        split
        · exact q
        · rename_i hlen
          refine ⟨(lay_tup (n := 3) fun y hy => by obtain ⟨p, hp, rfl⟩ := List.mem_map.mp hy; exact lay_enc gd hp).shp (by decide), by decide +kernel, ?_⟩
          split
          · rename_i hne
            refine ⟨by rw [List.length_map]; omega, compI_pf (fun _ => true) (fun p => .int p.d) (fun x hx R S h => ?_) ?_⟩
            · simp only [Pp.enc]
              walk_at "rz"
              rw [if_pos rfl] at h; exact h
            · rw [filter_true]
              refine ⟨ps.map (·.d), by rw [List.map_map]; rfl, fun z => by rw [List.map_eq_nil_iff] at z; subst z; exact absurd hne (by decide), fun M _ _ => ?_⟩
              split
              · exact q
              · exact fin
          · exact fin
end
end K10

open PySem PySem.W PyProof.Rows
set_option maxRecDepth 100000 in
set_option maxHeartbeats 0 in
theorem PySem.Challenge.cw_goneday_k10_whole_webs_without_rings_holds : PySem.Challenge.rw_goneday_k10_whole_webs_without_rings.Holds := by
  w_on; o_law; k_head; (case hw => w_witness2)
  k_fill
  refine L2.walk_ofBK (l := PySem.Challenge.rw_goneday_k10_whole_webs_without_rings) (n := 63) (k := 9) (x := "_law_script") (CX := L2.CX0) (sp := K10.sp_law) rfl (by decide) rfl ⟨rfl, by decide, by decide⟩ (fun w h Y => PySem.W.kIn_of Y) ?F ?S ?C
  case F =>
    intro w mg fa h KX G hmg
    have T : ∃ t, K10.Txt (L2.KOf KX) mg t := by
      dsimp only [L2.KOf]
      refine' K10.txt_mk KX G ?a0 ?l0 ?c0 ?k0 ?a1 ?l1 ?c1 ?k1 ?a2 ?l2 ?c2 ?k2 ?a3 ?l3 ?c3 ?k3 ?a4 ?l4 ?c4 ?k4 ?a5 ?l5 ?c5 ?k5 ?a6 ?l6 ?c6 ?k6 ?a7 ?l7 ?c7 ?k7 ?a8 ?l8 ?c8 ?k8 ?a9 ?l9 ?c9 ?k9 ?a10 ?l10 ?c10 ?k10 ?a11 ?l11 ?c11 ?k11 ?a12 ?l12 ?c12 ?k12 ?a13 ?l13 ?c13 ?k13 ?a14 ?l14 ?c14 ?k14 ?a15 ?l15 ?c15 ?k15 ?a16 ?l16 ?c16 ?k16 ?a17 ?l17 ?c17 ?k17 ?a18 ?l18 ?c18 ?k18 ?x_NoPaper ?n_abs ?n_all ?n_any ?n_int ?n_isinstance ?n_len ?n_list ?n_max ?n_range ?n_set ?n_sorted ?n_str ?n_tuple
      (case a0 => k_is)
      (case l0 => k_is)
      (case c0 => k_is)
      (case k0 => k_is)
      (case a1 => k_is)
      (case l1 => k_is)
      (case c1 => k_is)
      (case k1 => k_is)
      (case a2 => k_is)
      (case l2 => k_is)
      (case c2 => k_is)
      (case k2 => k_is)
      (case a3 => k_is)
      (case l3 => k_is)
      (case c3 => k_is)
      (case k3 => k_is)
      (case a4 => k_is)
      (case l4 => k_is)
      (case c4 => k_is)
      (case k4 => k_is)
      (case a5 => k_is)
      (case l5 => k_is)
      (case c5 => k_is)
      (case k5 => k_is)
      (case a6 => k_is)
      (case l6 => k_is)
      (case c6 => k_is)
      (case k6 => k_is)
      (case a7 => k_is)
      (case l7 => k_is)
      (case c7 => k_is)
      (case k7 => k_is)
      (case a8 => k_is)
      (case l8 => k_is)
      (case c8 => k_is)
      (case k8 => k_is)
      (case a9 => k_is)
      (case l9 => k_is)
      (case c9 => k_is)
      (case k9 => k_is)
      (case a10 => k_is)
      (case l10 => k_is)
      (case c10 => k_is)
      (case k10 => k_is)
      (case a11 => k_is)
      (case l11 => k_is)
      (case c11 => k_is)
      (case k11 => k_is)
      (case a12 => k_is)
      (case l12 => k_is)
      (case c12 => k_is)
      (case k12 => k_is)
      (case a13 => k_is)
      (case l13 => k_is)
      (case c13 => k_is)
      (case k13 => k_is)
      (case a14 => k_is)
      (case l14 => k_is)
      (case c14 => k_is)
      (case k14 => k_is)
      (case a15 => k_is)
      (case l15 => k_is)
      (case c15 => k_is)
      (case k15 => k_is)
      (case a16 => k_is)
      (case l16 => k_is)
      (case c16 => k_is)
      (case k16 => k_is)
      (case a17 => k_is)
      (case l17 => k_is)
      (case c17 => k_is)
      (case k17 => k_is)
      (case a18 => k_is)
      (case l18 => k_is)
      (case c18 => k_is)
      (case k18 => k_is)
      (case x_NoPaper => k_is)
      (case n_abs => k_is)
      (case n_all => k_is)
      (case n_any => k_is)
      (case n_int => k_is)
      (case n_isinstance => k_is)
      (case n_len => k_is)
      (case n_list => k_is)
      (case n_max => k_is)
      (case n_range => k_is)
      (case n_set => k_is)
      (case n_sorted => k_is)
      (case n_str => k_is)
      (case n_tuple => k_is)
    obtain ⟨t, T⟩ := T
    have e0 := hmg.symm.trans T.m_law
    cases e0
    exact ⟨t.d_law, T.bt_law, fun base kb nb => K10.ok_law T⟩
  case S => exact fun K H a ns hl hb hO hS => K10.start_law hl hb hS
  case C => exact fun _ _ _ _ z => z

